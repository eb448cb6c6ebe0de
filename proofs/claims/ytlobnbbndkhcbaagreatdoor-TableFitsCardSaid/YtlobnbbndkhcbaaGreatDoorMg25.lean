/-
  Texts of layer 13 and of what it stands on, one behind the other.
-/
import Derived.Test.YtlobnbbndkhcbaaGreatDoorMg15
import Derived.Test.YtlobnbbndkhcbaaGreatDoorMg23
import Derived.Test.YtlobnbbndkhcbaaGreatDoorMg10
import Derived.Deep.RegionHeld3
import Derived.Deep.QuietTactic
import Derived.BigQuiet
import Derived.Test.YtlobnbbndkhcbaaGreatDoorMg03
import Derived.Lib.Hide
import Derived.Handy
import Derived.Test.YtlobnbbndkhcbaaGreatDoorCards
import Derived.Test.YtlobnbbndkhcbaaGreatDoorTie
import Derived.Test.YtlobnbbndkhcbaaGreatDoorMg09
import Derived.Deep.DeepHandedRow
import Derived.Test.YtlobnbbndkhcbaaGreatDoorMg07

/- Layer 13: what the laws ask of package table, with May. -/
namespace Go.Proofs.YtlobnbbndkhcbaaGreatDoor
set_option linter.unusedVariables false
open Go.RowKit

structure TableOK (TB : List Ent → Opt → List UInt8) (NB : List Ent → Opt → Nat) (Tb : World → Prop) (T : World → Nat → (Nat → Prop) → List Ent → Nat → Prop) : Prop extends TableCore TB NB Tb T where
  may : ∀ (w : World) (t : Nat) (F : Nat → Prop) (l : List Ent) (c : Nat) (u : ByteArray), Tb w → T w t F l c → u.size ≤ 300 → Calls Tryz.prog 26 #[.pointer (some ⟨t, 0, none⟩), .string u] w fun en w' => ∃ b, en = .returned (.bool b) ∧ ((∃ x ∈ l, x.u = u) → b = true) ∧ Fr No w w'
end Go.Proofs.YtlobnbbndkhcbaaGreatDoor

/- Layer 13: contract of the law's ref. -/
namespace Go.Proofs.YtlobnbbndkhcbaaGreatDoor
set_option linter.unusedVariables false
open Go.RowKit

theorem rowEtR : RowT Tryz.prog 31 85 (.agg #[.string ⟨#[]⟩, .int .i64 0, .int .i64 0, .string ⟨#[]⟩]) 4 48 := ⟨Tryz.underlying31, by kernel_rfl, rfl, by decide⟩
set_option maxRecDepth 20000 in
set_option maxHeartbeats 1600000 in
theorem ref13_c (a : Option Addr) (n cap : Nat) (l : List Ent) (S : Nat → Prop) (w : World) (hn : l.length = n) (hm : n ≤ 1000000) (hi : Ents w S a l) :
    Calls Tryz.prog 12 #[.slice a n cap] w (NewEnts 85 l w) := by
  have HFIN : Hid (∀ v w', RowG w' (Gr No w w') 85 4 v n (entsC (l.take n)) → Fr No w w' → NewEnts 85 l w (.returned v) w') := Lib.hid fun v w' h1 h2 => by
    rw [List.take_of_length_le (by omega)] at h1
    exact ⟨v, rfl, by rw [hn]; exact h1, h2⟩
  have HL := Lib.hid hn
  have HI := Lib.hid hi
  clear hi hn
  go_enter Tryz.func12, Tryz.ntmps12
  go_wp2_with fail
  go_loopw [3, 8] (fun vo i wr => ∃ k : Nat, i = .int .i64 k ∧ k ≤ n ∧ RowG wr (Gr No w wr) 85 4 vo k (entsC (l.take k)) ∧ Fr No w wr) (fun _ i _ => n - (intOf i).toNat)
  case atStart => exact ⟨0, rfl, Nat.zero_le _, RowG.nil _ _ _ _, Fr.refl _ _⟩
  case round =>
    obtain ⟨k, rfl, hk, hrow, hfr⟩ := hrel
    obtain ⟨va, vc, rfl, _, _, _, _⟩ := hrow.form
    have HR := Lib.hid hrow
    have HF := Lib.hid hfr
    clear hrow hfr
    by_cases hlt : k < n
    · have hkl : k < l.length := by rw [HL.out]; exact hlt
      obtain ⟨b, o, _, rfl, hx⟩ := HI.out (by omega)
      have hx := (hx k hkl).keep HF.out (fun h => h)
      have HT := Lib.hid (take_ent l k hkl)
      have HTL : Hid ((l.take k).length = k) := Lib.hid (by rw [List.length_take]; omega)
      generalize l.getD k ent0 = x at hx HT
      obtain ⟨c0, c1, c2, c3⟩ := hx
      obtain ⟨w1, hw1⟩ : ∃ w1, wr.alloc (.cells #[.string x.u, .int .i64 x.q, .int .i64 x.k, .string x.val] 49) = w1 := ⟨_, rfl⟩
      have hf1 : Fr No wr w1 := by rw [← hw1]; exact (Fr.refl _ _).alloc _
      have a1 : At w1 wr.heap.size 49 #[.string x.u, .int .i64 x.q, .int .i64 x.k, .string x.val] := by rw [← hw1]; exact At.new _ _ _
      have q0 := a1.cell 0
      have q1 := a1.cell 1
      have q2 := a1.cell 2
      have q3 := a1.cell 3
      obtain ⟨v', w', hrun, hrow', hfr'⟩ := push_ent rowEtR (by decide) w w1 _ k (l.take k) x HTL.out (HR.out.grow hf1) (HF.out.trans hf1) (by omega)
      have hsz : w1.heap.size = wr.heap.size + 1 := by rw [← hw1]; simp
      rw [hsz] at hrun
      rw [← hw1] at hrun q0 q1 q2 q3
      have HRUN := Lib.hid hrun
      have HR2 := Lib.hid hrow'
      have HF2 := Lib.hid hfr'
      clear hrun hrow' hfr' hf1 a1 hw1 hsz
      go_wp2_with (at_builtin; refine wpList_append_run rfl _ _ 31 rfl rfl rfl HRUN.out ?_)
      go_roundw
      case rel => exact ⟨k + 1, by simp, by omega, by rw [HT.out]; exact HR2.out, HF2.out⟩
      case measure => simp [intOf]; omega
    · have hk' : k = n := by omega
      have HE : Hid (NewEnts 85 l w (.returned (.slice va k vc)) wr) := Lib.hid (by
        refine HFIN.out _ _ ?_ HF.out
        rw [← hk']
        exact HR.out)
      clear hk'
      go_wp2_with fail
      go_ret
      exact HE.out
end Go.Proofs.YtlobnbbndkhcbaaGreatDoor

/- Layer 11: the document's Get. -/
namespace Go.Proofs.YtlobnbbndkhcbaaGreatDoor
set_option linter.unusedVariables false
open Go.RowKit

set_option maxRecDepth 20000 in
set_option maxHeartbeats 3200000 in
theorem refGet_c (a : Option Addr) (cap n : Nat) (l : List Ent) (user : ByteArray) (at_ : Int) (w : World) (S : Nat → Prop) (hn : l.length = n) (hm : n ≤ 900000) (hi : Ents w S a l) (hwf : ∀ y ∈ l, EntWf y) :
    Calls Tryz.prog 28 #[.slice a n cap, .string user, .int .i64 at_] w (Ask (.int .i64 (getE l user at_)) w) := by
  have HN := Lib.hid hn
  have HI := Lib.hid hi
  have HWF := Lib.hid hwf
  have HGE : Hid (getE l user at_ = bestI l user at_ n) := Lib.hid (by unfold getE; rw [hn])
  obtain ⟨R, hR⟩ : ∃ R, getE l user at_ = R := ⟨_, rfl⟩
  rw [hR]
  rw [hR] at HGE
  clear hn hi hwf hR
  go_enter Tryz.func28, Tryz.ntmps28
  go_wp2_with fail
  go_loopw [7, 8] (fun bv i wr => ∃ (k : Nat) (z : Int), i = .int .i64 k ∧ bv = .int .i64 z ∧ k ≤ n ∧ bestI l user at_ k = z ∧ Fr No w wr) (fun _ i _ => n - (intOf i).toNat)
  case atStart => exact ⟨0, -1, rfl, rfl, Nat.zero_le _, rfl, Fr.refl _ _⟩
  case round =>
    obtain ⟨k, z, rfl, rfl, hk, hz, hfr⟩ := hrel
    have HZ := Lib.hid hz
    have HF := Lib.hid hfr
    have hzb := bestI_lt l user at_ k
    rewrite [hz] at hzb
    clear hfr hz
    by_cases hlt : k < n
    · have hkl : k < l.length := by rw [HN.out]; exact hlt
      obtain ⟨b, o, _, rfl, hxs⟩ := HI.out (by omega)
      have hy := (hxs k hkl).keep HF.out (fun h => h)
      have HYW := Lib.hid (HWF.out _ (getD_memE l k hkl))
      have HST : Hid (bestI l user at_ (k + 1) = if takesE l user at_ z k then (k : Int) else z) := Lib.hid (by
        show (if takesE l user at_ (bestI l user at_ k) k then (k : Int) else bestI l user at_ k) = _
        rw [HZ.out])
      obtain ⟨t, ht⟩ : ∃ t, takesE l user at_ z k = t := ⟨_, rfl⟩
      have HT : Hid (((l.getD k ent0).u = user && decide ((l.getD k ent0).q ≤ at_) && (decide (z < 0) || decide (cmpE (l.getD k ent0) (l.getD z.toNat ent0) < 0))) = t) := Lib.hid ht
      rewrite [ht] at HST
      clear ht
      obtain ⟨y, hy0⟩ : ∃ y, l.getD k ent0 = y := ⟨_, rfl⟩
      rewrite [hy0] at hy HYW HT
      clear hy0
      obtain ⟨c0, c1, c2, c3⟩ := hy
      by_cases hu : y.u = user
      · have hb : (y.u.toList == user.toList) = true := by rw [toList_eq_iff]; simpa using hu
        by_cases hq : y.q ≤ at_
        · have dq : decide (y.q ≤ at_) = true := decide_eq_true hq
          by_cases hz0 : z < 0
          · have dz : decide (z < 0) = true := decide_eq_true hz0
            have HT2 : Hid (t = true) := Lib.hid (by rw [← HT.out, dq, dz]; simp [hu])
            clear hu HT
            go_wp2_with fail
            go_quiet (fail)
            go_wp2_with fail
            go_roundw
            case rel => exact ⟨k + 1, _, by simp, rfl, by omega, by rw [HST.out, HT2.out]; rfl, HF.out.drewN _⟩
            case measure => simp [intOf]; omega
          · have dz : decide (z < 0) = false := decide_eq_false hz0
            obtain ⟨j, rfl⟩ : ∃ j : Nat, z = (j : Int) := ⟨z.toNat, by omega⟩
            have hjl : j < l.length := by omega
            have hyj := (hxs j hjl).keep HF.out (fun h => h)
            have HJW := Lib.hid (HWF.out _ (getD_memE l j hjl))
            rewrite [Int.toNat_natCast] at HT
            obtain ⟨v, hv⟩ : ∃ v, l.getD j ent0 = v := ⟨_, rfl⟩
            rewrite [hv] at hyj HJW HT
            clear hv
            obtain ⟨e0, e1, e2, e3⟩ := hyj
            have HC := Lib.hid (fun w' => refCmp_c y.u v.u y.q y.k v.q v.k HYW.out.1 HJW.out.1 w')
            have hce : cmpK y.u.data.toList y.q y.k v.u.data.toList v.q v.k = cmpE y v := rfl
            rewrite [hce] at HC
            obtain ⟨c, hc⟩ : ∃ c, cmpE y v = c := ⟨_, rfl⟩
            rewrite [hc] at HC HT
            have HT2 : Hid (t = decide (c < 0)) := Lib.hid (by rw [← HT.out, dq, dz]; simp [hu])
            have hfx := HF.out.drew
            clear hce hc hu HT hxs
            have hjn : (j : Int) < (n : Int) := by omega
            rcases Bool.eq_false_or_eq_true (decide (c < 0)) with d0 | d0
            all_goals
              go_wp2_with fail
              go_region_held3 (fun w' => w'.cell? ⟨b, o + k * 4, none⟩ = some (.string y.u) ∧ w'.cell? ⟨b, o + k * 4 + 1, none⟩ = some (.int .i64 y.q) ∧ w'.cell? ⟨b, o + k * 4 + 2, none⟩ = some (.int .i64 y.k) ∧ w'.cell? ⟨b, o + j * 4, none⟩ = some (.string v.u) ∧ w'.cell? ⟨b, o + j * 4 + 1, none⟩ = some (.int .i64 v.q) ∧ w'.cell? ⟨b, o + j * 4 + 2, none⟩ = some (.int .i64 v.k) ∧ Fr No w w') (first | assumption | go_keep)
                (first
                  | (go_at_call 41; refine (HC.out _).mono ?_; intro e w6 hret; obtain ⟨rfl, hf6⟩ := hret
                     have c0 := hf6.cell (p := ⟨b, o + k * 4, none⟩) c0 (fun h => h)
                     have c1 := hf6.cell (p := ⟨b, o + k * 4 + 1, none⟩) c1 (fun h => h)
                     have c2 := hf6.cell (p := ⟨b, o + k * 4 + 2, none⟩) c2 (fun h => h)
                     have e0 := hf6.cell (p := ⟨b, o + j * 4, none⟩) e0 (fun h => h)
                     have e1 := hf6.cell (p := ⟨b, o + j * 4 + 1, none⟩) e1 (fun h => h)
                     have e2 := hf6.cell (p := ⟨b, o + j * 4 + 2, none⟩) e2 (fun h => h)
                     have hfx := hfx.trans hf6
                     clear hf6))
              have HFX := Lib.hid hfx
              have HD := Lib.hid d0
              clear hfx
              go_wp2_with fail
              go_roundw
              case rel => exact ⟨k + 1, _, by simp, rfl, by omega, by rw [HST.out, HT2.out, HD.out]; rfl, HFX.out⟩
              case measure => simp [intOf]; omega
        · have dq : decide (y.q ≤ at_) = false := decide_eq_false hq
          have HT2 : Hid (t = false) := Lib.hid (by rw [← HT.out, dq]; simp)
          clear hu HT
          go_wp2_with fail
          go_quiet (fail)
          go_wp2_with fail
          go_roundw
          case rel => exact ⟨k + 1, _, by simp, rfl, by omega, by rw [HST.out, HT2.out]; rfl, HF.out.drewN _⟩
          case measure => simp [intOf]; omega
      · have hb : (y.u.toList == user.toList) = false := by rw [toList_eq_iff]; simpa using hu
        have HT2 : Hid (t = false) := Lib.hid (by rw [← HT.out]; simp [hu])
        clear hu HT
        go_wp2_with fail
        go_quiet (fail)
        go_wp2_with fail
        go_roundw
        case rel => exact ⟨k + 1, _, by simp, rfl, by omega, by rw [HST.out, HT2.out]; rfl, HF.out.drewN _⟩
        case measure => simp [intOf]; omega
    · have hk' : k = n := by omega
      subst hk'
      have HE : Hid (R = z) := Lib.hid (HGE.out.trans HZ.out)
      go_wp2_with fail
      go_ret
      exact ⟨by rw [HE.out]; rfl, HF.out⟩
end Go.Proofs.YtlobnbbndkhcbaaGreatDoor

/- Rows of texts of the call's own. -/
namespace Go.Proofs.YtlobnbbndkhcbaaGreatDoor
set_option linter.unusedVariables false
open Go.RowKit

def strsC (l : List ByteArray) : List Value := l.map Value.string
theorem strsC_append (l m : List ByteArray) : strsC (l ++ m) = strsC l ++ strsC m := by simp [strsC]
theorem rowStr : RowT Tryz.prog 53 9 (.string ⟨#[]⟩) 1 16 := ⟨Tryz.underlying53, by kernel_rfl, rfl, by decide⟩
/-- A row of texts of the call's own comes back, and nothing that was there has turned. -/
def NewStrs (l : List ByteArray) (w : World) (e : Ending) (w' : World) : Prop := ∃ v, e = .returned v ∧ RowG w' (Gr No w w') 9 1 v l.length (strsC l) ∧ Fr No w w'
theorem push_str (W0 wr : World) (vo : Value) (m : Nat) (o : List ByteArray) (x : ByteArray) (hm : o.length = m) (hrow : RowG wr (Gr No W0 wr) 9 1 vo m (strsC o)) (hfr : Fr No W0 wr) (hl : m ≤ 1000000) :
    ∃ v' w', (Builtin.append_ #[53, 53] 53 #[vo, .slice (some ⟨wr.heap.size, 0, none⟩) 1 1]).run Tryz.prog (wr.alloc (.cells #[.string x] 9)) = .ok v' w' ∧
      RowG w' (Gr No W0 w') 9 1 v' (m + 1) (strsC (o ++ [x])) ∧ Fr No W0 w' := by
  subst hm
  obtain ⟨v', w', h1, h2, h3⟩ := hrow.push rowStr (fun q hq => hq.elim (fun h => h.elim) (fun h => h.2)) [.string x] rfl (by intro u hu; simp at hu; subst hu; rfl) (by omega) (by omega)
  refine ⟨v', w', h1, ?_, hfr.then_ h3 fun q hq h => h.elim (fun h => h) (fun h => absurd hq (by omega))⟩
  rw [strsC_append]
  exact h2.join hfr.size h3.size
/-- TEXTS that are read. -/
def StrIn (w : World) (a : Option Addr) (l : List ByteArray) : Prop := 0 < l.length → ∃ b, a = some ⟨b, 0, none⟩ ∧ ∀ i, i < l.length → w.cell? ⟨b, i, none⟩ = some (.string (l.getD i ByteArray.empty))
theorem StrIn.keep {w w' : World} {a : Option Addr} {l : List ByteArray} (h : StrIn w a l) (f : Fr No w w') : StrIn w' a l := fun hl => by
  obtain ⟨b, ha, hc⟩ := h hl
  exact ⟨b, ha, fun i hi => f.cell (hc i hi) (fun h => h)⟩
theorem RowG.strs {w : World} {S : Nat → Prop} {e : TypeId} {v : Value} {l : List ByteArray} (h : RowG w S e 1 v l.length (strsC l)) : ∃ a cap, v = .slice a l.length cap ∧ l.length ≤ cap ∧ cap ≤ maxLen ∧ StrIn w a l := by
  obtain ⟨a, cap, rfl, h1, h2, _, h3⟩ := h.form
  refine ⟨a, cap, rfl, h1, h2, fun hl => ?_⟩
  obtain ⟨b, _, rfl, hc⟩ := h3 hl
  refine ⟨b, rfl, fun i hi => (hc i (by omega)).1.trans ?_⟩
  simp [strsC, List.getD, hi]
/-- A row of one text, that has just been laid. -/
theorem row_str (w : World) (x : ByteArray) : RowG (w.alloc (.cells #[.string x] 9)) (Gr No w (w.alloc (.cells #[.string x] 9))) 9 1 (.slice (some ⟨w.heap.size, 0, none⟩) 1 1) 1 (strsC [x]) :=
  ⟨⟨by simp [strsC], .inr ⟨w.heap.size, 1, _, rfl, Nat.zero_le _, heap_alloc_new w _, Nat.le_refl _, by simp [maxLen], by simp, by simp [strsC]⟩⟩, fun k hk => by
    have : w.heap.size = k := Option.some.inj hk
    subst this
    exact .inr ⟨Nat.le_refl _, by simp⟩⟩
end Go.Proofs.YtlobnbbndkhcbaaGreatDoor

/- Layer 13: the walk of TableGets. -/
namespace Go.Proofs.YtlobnbbndkhcbaaGreatDoor
set_option linter.unusedVariables false
open Go.RowKit

/-- A text appended, where what came between is kept. -/
theorem push_strW (W0 wr w1 : World) (vo : Value) (m : Nat) (o : List ByteArray) (x : ByteArray) (hrow : RowG wr (Gr No W0 wr) 9 1 vo m (strsC o)) (hfr : Fr No W0 wr) (f : Fr No wr w1) (hl : m ≤ 1000000) :
    ∃ v' w', (Builtin.append_ #[53, 53] 53 #[vo, .slice (some ⟨w1.heap.size, 0, none⟩) 1 1]).run Tryz.prog (w1.alloc (.cells #[.string x] 9)) = .ok v' w' ∧
      RowG w' (Gr No W0 w') 9 1 v' (m + 1) (strsC (o ++ [x])) ∧ Fr (Gr No W0 wr) w1 w' ∧ Fr No W0 w' := by
  obtain ⟨v', w', h1, h2, h3⟩ := (hrow.keep f (fun _ _ h => h)).push rowStr (fun q hq => hq.elim (fun h => h.elim) (fun h => Nat.lt_of_lt_of_le h.2 f.size)) [.string x] rfl (by intro u hu; simp at hu; subst hu; rfl) (by omega) (by omega)
  refine ⟨v', w', h1, ?_, h3, (hfr.trans f).then_ h3 fun q hq h => h.elim (fun h => h) (fun h => absurd hq (by omega))⟩
  rw [strsC_append]
  refine h2.sub fun x _ hx => ?_
  have s1 := hfr.size
  have s2 := f.size
  have s3 := h3.size
  rcases hx with (hx | hx) | hx
  · exact .inl hx
  · exact .inr ⟨hx.1, by omega⟩
  · exact .inr ⟨by omega, hx.2⟩
theorem take_us (l : List Ent) (k : Nat) (h : k < l.length) : (l.take (k + 1)).map Ent.u = (l.take k).map Ent.u ++ [(l.getD k ent0).u] := by
  rw [take_ent l k h, List.map_append]
  rfl
theorem buildTE_zero {TB : List Ent → Opt → List UInt8} {l : List Ent} {o : Opt} {most : Int} (h : buildTE TB l o most = 0) : OkO o ∧ RightL l ∧ ((TB l o).length : Int) ≤ most := by
  unfold buildTE at h
  split at h
  · exact absurd h (by decide)
  · rename_i h1
    split at h
    · exact absurd h (by decide)
    · rename_i h2
      split at h
      · exact absurd h (by decide)
      · exact ⟨Decidable.not_not.1 h1, Decidable.not_not.1 h2, by omega⟩
section
variable {TB : List Ent → Opt → List UInt8} {NB : List Ent → Opt → Nat} {Tb : World → Prop} {T : World → Nat → (Nat → Prop) → List Ent → Nat → Prop}
set_option maxRecDepth 20000 in
set_option maxHeartbeats 6400000 in
theorem gets13_c (H : TableOK TB NB Tb T) (w : World) (ht : Tb w) (S : Nat → Prop) (a : Option Addr) (n cap : Nat) (l : List Ent) (o : Opt) (u : ByteArray) (at_ : Int) (hn : l.length = n) (hc : n ≤ cap) (hm : cap ≤ maxLen) (hi : Ents w S a l) (hwf : ∀ x ∈ l, EntWf x) (ho : OptWf o) (hu : u.size ≤ maxLen) (hat : (Lit.int .i64 at_).wf = true) :
    Calls Tryz.prog 4 #[.agg #[.slice a n cap, .int .i64 o.b, .int .i64 o.e, .int .i64 o.n, .string u, .int .i64 at_]] w (PlainRet (.bool true) w) := by
  obtain ⟨W, hW⟩ : ∃ W, w.alloc (.cells #[.slice a n cap, .int .i64 o.b, .int .i64 o.e, .int .i64 o.n, .string u, .int .i64 at_] 52) = W := ⟨_, rfl⟩
  have f0 : Fr No w W := by rw [← hW]; exact (Fr.refl No w).alloc _
  have a0 : At W w.heap.size 52 #[.slice a n cap, .int .i64 o.b, .int .i64 o.e, .int .i64 o.n, .string u, .int .i64 at_] := by rw [← hW]; exact At.new _ _ _
  have hiW := hi.sub (T := fun k => k < w.heap.size) (fun k hk _ => hk)
  have HI := Lib.hid (hiW.keep f0 (fun _ _ h => h))
  have CS := Lib.hid (small13_c a n cap l 60 _ W hn (by omega) HI.out)
  have AW := Lib.hid (fun (w' : World) (f : Fr No W w') => awake13_c H.toTableCore w' (H.tabK ht (f0.trans f)))
  have hn' : n ≤ 9223372036854775807 := by unfold maxLen at hm; omega
  have hcc : cap ≤ 9223372036854775807 := by unfold maxLen at hm; omega
  have hus : u.size ≤ 9223372036854775807 := by unfold maxLen at hu; omega
  have HF0 := Lib.hid f0
  have HA0 := Lib.hid a0
  have b0 := a0.cell 0
  have b4 := a0.cell 4
  have HW := Lib.hid hW
  have HN := Lib.hid hn
  clear hi f0 a0 hW hiW
  by_cases hs : Small13 l 60
  · have hs60 : n ≤ 60 := by have := hs.2; omega
    rw [decide_eq_true hs] at CS
    by_cases h2 : (200 : Int) < (u.size : Int)
    · go_enter Tryz.func4, Tryz.ntmps4
      go_wp2_with fail
      rw [HW.out]
      refine (show Calls _ _ _ _ _ from CS.out).mono ?_
      rintro e1 w1 ⟨rfl, f1⟩
      have b4 := f1.cell b4 (fun h => h)
      have HF1 := Lib.hid (HF0.out.trans f1)
      have HAW := Lib.hid (AW.out w1 f1)
      clear f1 CS AW b0
      go_wp2_with fail
      refine (show Calls _ _ _ _ _ from HAW.out).mono ?_
      rintro e3 w3 ⟨rfl, f3⟩
      go_wp2_with fail
      go_ret
      exact ⟨rfl, HF1.out.trans f3⟩
    · have CB := Lib.hid (fun (w' : World) (f : Fr No W w') => H.build w' _ a n cap l o 1048576 (H.tabK ht (HF0.out.trans f)) hn hc hm (by omega) hs.1 (HI.out.keep f (fun _ _ h => h)) hwf ho (by decide))
      have HBZ := Lib.hid (@buildTE_zero TB l o 1048576)
      obtain ⟨er, her⟩ : ∃ er, buildTE TB l o 1048576 = er := ⟨_, rfl⟩
      have HER := Lib.hid her
      clear her
      have HLO := Lib.hid hs.1
      have HH := Lib.hid H
      have HT0 := Lib.hid ht
      have HWF := Lib.hid hwf
      clear hs H ht hwf
      unfold optV at *
      go_enter Tryz.func4, Tryz.ntmps4
      go_wp2_with fail
      rw [HW.out]
      refine (show Calls _ _ _ _ _ from CS.out).mono ?_
      rintro e1 w1 ⟨rfl, f1⟩
      have HA1 := Lib.hid (HA0.out.keep f1 (fun h => h))
      have b0 := HA1.out.cell 0
      have b1 := HA1.out.cell 1
      have b2 := HA1.out.cell 2
      have b3 := HA1.out.cell 3
      have b4 := HA1.out.cell 4
      have HF1 := Lib.hid f1
      have CB1 := Lib.hid (CB.out w1 f1)
      clear f1 CS CB
      go_wp2_with fail
      refine (show Calls _ _ _ _ _ from CB1.out).mono ?_
      rintro e2 w2 ⟨v, rfl, hrow, f2⟩
      obtain ⟨va, vc, rfl, hvc, hvm, hin⟩ := hrow.form
      rw [HER.out] at hin ⊢
      rw [HER.out] at hvc
      have HF2 := Lib.hid (HF1.out.trans f2)
      have HA2 := Lib.hid (HA1.out.keep f2 (fun h => h))
      clear f2 hrow CB1 b0 b1 b2 b3 b4
      by_cases hez : er = 0
      · subst hez
        obtain ⟨k1, k2, k3⟩ := HBZ.out HER.out
        rw [if_pos rfl] at hin hvc ⊢
        obtain ⟨bn, hbn⟩ : ∃ bn, (TB l o).length = bn := ⟨_, rfl⟩
        have CO := Lib.hid (open13 HH.out.toTableCore w2 va bn vc l o (HH.out.tabK HT0.out (HF0.out.trans HF2.out)) hbn (by rw [← hbn]; exact hvc) hvm HLO.out (by have := HN.out; omega) hin.rd k1 k2)
        rw [hbn]
        clear hbn hin hvc hvm k1 k2 k3 HBZ HER
        go_wp2_with fail
        refine (show Calls _ _ _ _ _ from CO.out).mono ?_
        rintro e3 w3 ⟨t, F, rfl, hT, _, _, hF, f3⟩
        have HF3 := Lib.hid (HF2.out.trans f3)
        have HA3 := Lib.hid (HA2.out.keep f3 (fun h => h))
        have b0 := HA3.out.cell 0
        have HT3 := Lib.hid hT
        have CR := Lib.hid (ref13_c a n cap l _ w3 HN.out (by omega) (HI.out.keep HF3.out (fun _ _ h => h)))
        obtain ⟨nb, hnb⟩ : ∃ nb, NB l o = nb := ⟨_, rfl⟩
        rw [hnb] at HT3
        clear hT hF f3 CO hnb
        go_wp2_with fail
        refine (show Calls _ _ _ _ _ from CR.out).mono ?_
        rintro e4 w4 ⟨v4, rfl, hr4, f4⟩
        obtain ⟨ra, rc, rfl, k1, k2, hents⟩ := hr4.ents
        rw [HN.out]
        rw [HN.out] at k1
        have HF34 := Lib.hid f4
        have HF4 := Lib.hid (HF3.out.trans f4)
        have HA4 := Lib.hid (HA3.out.keep f4 (fun h => h))
        have HT4 := Lib.hid (HH.out.keep HT3.out f4 (fun _ _ h => h))
        have HE4 := Lib.hid hents
        have b0 := HA4.out.cell 0
        have b4 := HA4.out.cell 4
        have HR0 := Lib.hid (row_str w4 u)
        have HS0 := Lib.hid ((Fr.refl No w4).alloc (.cells #[.string u] 9))
        have b0' := HS0.out.cell b0 (fun h => h)
        clear hr4 f4 CR HT3 hents
        go_wp2_with fail
        go_loopw [8, 58] (fun uv i wr => ∃ k : Nat, i = .int .i64 k ∧ k ≤ n ∧ RowG wr (Gr No w4 wr) 9 1 uv (k + 1) (strsC (u :: (l.take k).map Ent.u)) ∧ Fr No w4 wr) (fun _ i _ => n - (intOf i).toNat)
        case atStart => exact ⟨0, rfl, Nat.zero_le _, HR0.out, HS0.out⟩
        case round =>
          obtain ⟨k, rfl, hk, hrow, hfr⟩ := hrel
          obtain ⟨ua, uc, rfl, _, _, _, _⟩ := hrow.form
          have HR := Lib.hid hrow
          have HF := Lib.hid hfr
          clear hrow hfr
          by_cases hlt : k < n
          · have hkl : k < l.length := by rw [HN.out]; exact hlt
            obtain ⟨b, off, _, rfl, hx⟩ := HI.out (by omega)
            have hx := (hx k hkl).keep (HF4.out.trans HF.out) (fun h => h)
            have HTU := Lib.hid (take_us l k hkl)
            have hxm := getD_memE l k hkl
            have HSZ := Lib.hid (HLO.out _ hxm).1
            obtain ⟨x, hy⟩ : ∃ x, l.getD k ent0 = x := ⟨_, rfl⟩
            rw [hy] at hx HTU hxm HSZ
            have HXM := Lib.hid hxm
            clear hy hxm
            obtain ⟨c0, c1, c2, c3⟩ := hx
            obtain ⟨w1, hw1⟩ : ∃ w1, wr.alloc (.cells #[.string x.u, .int .i64 x.q, .int .i64 x.k, .string x.val] 49) = w1 := ⟨_, rfl⟩
            have hf1 : Fr No wr w1 := by rw [← hw1]; exact (Fr.refl _ _).alloc _
            have a1 : At w1 wr.heap.size 49 #[.string x.u, .int .i64 x.q, .int .i64 x.k, .string x.val] := by rw [← hw1]; exact At.new _ _ _
            have q0 := a1.cell 0
            obtain ⟨v', w', hrun, hrow', hfr', hfr2⟩ := push_strW w4 wr w1 _ (k + 1) _ x.u HR.out HF.out hf1 (by omega)
            have q1 := hfr'.cell q0 (fun h => h.elim (fun h => h) (fun h => absurd h.2 (Nat.lt_irrefl _)))
            have hsz : w1.heap.size = wr.heap.size + 1 := by rw [← hw1]; simp
            rw [hsz] at hrun
            rw [← hw1] at hrun q0
            have HRUN := Lib.hid hrun
            have HR2 := Lib.hid hrow'
            have HF2 := Lib.hid hfr2
            have CM := Lib.hid (HH.out.may w' t F l nb x.u (HH.out.tabK HT0.out (HF0.out.trans (HF4.out.trans hfr2))) (HH.out.keep HT4.out hfr2 (fun _ _ h => h)) (by have := HSZ.out; omega))
            clear hrun hrow' hfr' hfr2 hf1 a1 hw1 hsz
            go_wp2_with (at_builtin; refine wpList_append_run rfl _ _ 53 rfl rfl rfl HRUN.out ?_)
            refine (show Calls _ _ _ _ _ from CM.out).mono ?_
            rintro e6 w6 ⟨bb, rfl, hbb, f6⟩
            obtain rfl : bb = true := hbb ⟨x, HXM.out, rfl⟩
            have HF6 := Lib.hid f6
            clear f6 hbb
            go_wp2_with fail
            go_roundw
            case rel => exact ⟨k + 1, by simp, by omega, by rw [HTU.out]; exact HR2.out.grow HF6.out, HF2.out.trans HF6.out⟩
            case measure => simp [intOf]; omega
          · have hk' : k = n := by omega
            subst hk'
            have HUS : Hid ((u :: (l.take k).map Ent.u).length = k + 1) := Lib.hid (by simp [HN.out])
            have HU2 : Hid (∀ y ∈ (u :: (l.take k).map Ent.u), y.size ≤ 300) := Lib.hid (by
              intro y hy
              rcases List.mem_cons.1 hy with rfl | hy
              · omega
              · obtain ⟨x, hx, rfl⟩ := List.mem_map.1 hy
                have := (HLO.out x (List.mem_of_mem_take hx)).1
                omega)
            obtain ⟨us, hus⟩ : ∃ us, (u :: (l.take k).map Ent.u) = us := ⟨_, rfl⟩
            rw [hus] at HR HUS HU2
            have hr := HR.out
            rw [← HUS.out] at hr
            obtain ⟨sa, sc, hsv, s1, s2, hstr⟩ := hr.strs
            rw [HUS.out] at hsv s1
            cases hsv
            have HFW := Lib.hid (HF4.out.trans HF.out)
            have HFW4 : Hid (Fr No w3 wr) := Lib.hid (HF34.out.trans HF.out)
            have HST := Lib.hid hstr
            have HA5 := Lib.hid (HA4.out.keep HF.out (fun h => h))
            have HT5 := Lib.hid (HH.out.keep HT4.out HF.out (fun _ _ h => h))
            have HE5 := Lib.hid (HE4.out.keep HF.out (fun _ _ h => h))
            have HI5 := Lib.hid (HI.out.keep HFW.out (fun _ _ h => h))
            clear hr hstr hus HR HF HA4 HT4 HE4 b0 b4 b0' HR0 HS0
            obtain ⟨W6, rfl⟩ : ∃ W6, W6 = wr := ⟨_, rfl⟩
            go_wp2_with fail
            go_loopw [77] (fun i wr => ∃ j : Nat, i = .int .i64 (j : Int) ∧ j ≤ k + 1 ∧ Fr No W6 wr) (fun i _ => k + 1 - (intOf i).toNat)
            case atStart => exact ⟨0, rfl, Nat.zero_le _, Fr.refl _ _⟩
            case round =>
              obtain ⟨j, rfl, hj, hfr⟩ := hrel
              have HFR := Lib.hid hfr
              clear hfr
              by_cases hlt : j < k + 1
              · obtain ⟨sb, rfl, hsx⟩ := HST.out (by have := HUS.out; omega)
                have hx := HFR.out.cell (hsx j (by have := HUS.out; omega)) (fun h => h)
                have HXS : Hid ((us.getD j ByteArray.empty).size ≤ 300) := Lib.hid (HU2.out _ (by
                  have hjl : j < us.length := by have := HUS.out; omega
                  rw [List.getD_eq_getElem?_getD, List.getElem?_eq_getElem hjl]
                  exact List.getElem_mem hjl))
                obtain ⟨x, hxe⟩ : ∃ x, us.getD j ByteArray.empty = x := ⟨_, rfl⟩
                rw [hxe] at hx HXS
                clear hxe hsx
                have HAR := Lib.hid (HA5.out.keep HFR.out (fun h => h))
                have b3 := HAR.out.cell 5
                have CG := Lib.hid (HH.out.get wr t F l nb x at_ (HH.out.keep HT5.out HFR.out (fun _ _ h => h)) HXS.out hat)
                have hjn : (j : Int) < (k : Int) + 1 := by omega
                have hgl := bestI_lt l x at_ l.length
                obtain ⟨G, hG⟩ : ∃ G, getE l x at_ = G := ⟨_, rfl⟩
                have hGb : bestI l x at_ l.length = G := hG
                rw [hGb, HN.out] at hgl
                obtain ⟨y, hy⟩ : ∃ y, gotE l x at_ = y := ⟨_, rfl⟩
                have HY : Hid (y = if G < 0 then ent0 else l.getD G.toNat ent0) := Lib.hid (by rw [← hy]; unfold gotE; rw [hG])
                rw [hG, hy] at CG
                clear hy hGb
                unfold entV at CG
                go_wp2_with fail
                refine (show Calls _ _ _ _ _ from CG.out).mono ?_
                rintro e7 w7 ⟨rfl, f7⟩
                obtain ⟨w8, hw8⟩ : ∃ w8, w7.alloc (.cells #[.string y.u, .int .i64 y.q, .int .i64 y.k, .string y.val] 49) = w8 := ⟨_, rfl⟩
                have f8 : Fr No wr w8 := by rw [← hw8]; exact f7.alloc _
                have a8 : At w8 w7.heap.size 49 #[.string y.u, .int .i64 y.q, .int .i64 y.k, .string y.val] := by rw [← hw8]; exact At.new _ _ _
                obtain ⟨g, hg⟩ : ∃ g, w7.heap.size = g := ⟨_, rfl⟩
                rw [hg] at a8
                have HA8 := Lib.hid a8
                have HF8 := Lib.hid (HFR.out.trans f8)
                have HB8 := Lib.hid (HAR.out.keep f8 (fun h => h))
                have b3 := HB8.out.cell 5
                rw [← hw8] at b3
                have CE := Lib.hid (refGet_c ra rc k l x at_ w8 _ HN.out (by omega) (HE5.out.keep HF8.out (fun _ _ h => h)) HWF.out)
                rw [hG] at CE
                have HW8 := Lib.hid hw8
                have HG8 := Lib.hid hg
                clear f7 f8 a8 hw8 hg hG CG hx HAR
                go_wp2_with fail
                rw [HW8.out, HG8.out]
                refine (show Calls _ _ _ _ _ from CE.out).mono ?_
                rintro e9 w9 ⟨rfl, f9⟩
                obtain ⟨q0, q1, q2, q3⟩ : w9.cell? ⟨g, 0, none⟩ = some (.string y.u) ∧ w9.cell? ⟨g, 1, none⟩ = some (.int .i64 y.q) ∧ w9.cell? ⟨g, 2, none⟩ = some (.int .i64 y.k) ∧ w9.cell? ⟨g, 3, none⟩ = some (.string y.val) :=
                  ⟨(HA8.out.keep f9 (fun h => h)).cell 0, (HA8.out.keep f9 (fun h => h)).cell 1, (HA8.out.keep f9 (fun h => h)).cell 2, (HA8.out.keep f9 (fun h => h)).cell 3⟩
                have b0 := (HB8.out.keep f9 (fun h => h)).cell 0
                have HF9 := Lib.hid (HF8.out.trans f9)
                clear f9 CE b3
                by_cases hneg : G < 0
                · obtain rfl : G = -1 := by omega
                  have hy0 : y = ent0 := by rw [HY.out, if_pos hneg]
                  subst hy0
                  simp only [ent0] at q0 q1 q2 q3 ⊢
                  have dg : decide ((0 : Int) ≤ -1) = false := by decide
                  rw [dg]
                  have de : (ByteArray.empty.toList == (⟨#[]⟩ : ByteArray).toList) = true := beq_self_eq_true _
                  go_wp2_with fail
                  go_quiet (fail)
                  go_wp2_with fail
                  go_roundw
                  case rel => exact ⟨j + 1, by simp, by omega, HF9.out.drewN _⟩
                  case measure => simp [intOf]; omega
                · obtain ⟨m, rfl⟩ : ∃ m : Nat, G = (m : Int) := ⟨G.toNat, by omega⟩
                  have hmn : (m : Int) < (k : Int) := hgl.2
                  have hmk : m < k := by omega
                  have hye : l.getD m ent0 = y := by rw [HY.out, if_neg hneg, Int.toNat_natCast]
                  obtain ⟨b, off, _, rfl, hxl⟩ := HI.out (by have := HN.out; omega)
                  obtain ⟨c0, c1, c2, c3⟩ := (hxl m (by have := HN.out; omega)).keep (HFW.out.trans HF9.out) (fun h => h)
                  rw [hye] at c0 c1 c2 c3
                  have dg : decide ((0 : Int) ≤ (m : Int)) = true := by rw [decide_eq_true_eq]; omega
                  rw [dg]
                  have dg2 : decide ((m : Int) ≥ 0) = true := dg
                  have d0 : (y.u.toList == y.u.toList) = true := beq_self_eq_true _
                  have d1 : (y.q == y.q) = true := beq_self_eq_true _
                  have d2 : (y.k == y.k) = true := beq_self_eq_true _
                  have d3 : (y.val.toList == y.val.toList) = true := beq_self_eq_true _
                  clear hye hxl HY hgl
                  go_wp2_with fail
                  go_quiet (fail)
                  go_wp2_with fail
                  go_roundw
                  case rel => exact ⟨j + 1, by simp, by omega, HF9.out.drewN _⟩
                  case measure => simp [intOf]; omega
              · have HAW := Lib.hid (AW.out wr (HF3.out.trans (HFW4.out.trans HFR.out)))
                go_wp2_with fail
                refine (show Calls _ _ _ _ _ from HAW.out).mono ?_
                rintro e7 w7 ⟨rfl, f7⟩
                go_wp2_with fail
                go_ret
                exact ⟨rfl, (HF0.out.trans (HF3.out.trans (HFW4.out.trans HFR.out))).trans f7⟩
      · have HAW := Lib.hid (AW.out w2 HF2.out)
        have dz : (er == 0) = false := by rw [beq_eq_false_iff_ne]; exact hez
        obtain ⟨vn, hvn⟩ : ∃ vn, (if er = 0 then TB l o else []).length = vn := ⟨_, rfl⟩
        rw [hvn]
        clear hin hvc hvm hez hvn
        go_wp2_with fail
        refine (show Calls _ _ _ _ _ from HAW.out).mono ?_
        rintro e7 w7 ⟨rfl, f7⟩
        go_wp2_with fail
        go_ret
        exact ⟨rfl, (HF0.out.trans HF2.out).trans f7⟩
  · rw [decide_eq_false hs] at CS
    go_enter Tryz.func4, Tryz.ntmps4
    go_wp2_with fail
    rw [HW.out]
    refine (show Calls _ _ _ _ _ from CS.out).mono ?_
    rintro e1 w1 ⟨rfl, f1⟩
    have HF1 := Lib.hid (HF0.out.trans f1)
    have HAW := Lib.hid (AW.out w1 f1)
    clear f1 CS AW b0
    go_wp2_with fail
    refine (show Calls _ _ _ _ _ from HAW.out).mono ?_
    rintro e3 w3 ⟨rfl, f3⟩
    go_wp2_with fail
    go_ret
    exact ⟨rfl, HF1.out.trans f3⟩
end
end Go.Proofs.YtlobnbbndkhcbaaGreatDoor

/- The table of package sum as each row lists it: its sixteen cells; and a world for the rows' witnesses in which they are laid. -/
namespace Go.Proofs.YtlobnbbndkhcbaaGreatDoor
set_option linter.unusedVariables false
open Go.ChangeShapes Go.WideShapes Go.ChangeAt Go.RowKit

theorem own : ownKnob Tryz.prog.godebug = none := by kernel_rfl
theorem laidOut : laidOutB Tryz.prog = true := by kernel_rfl
theorem gTab : Tryz.prog.globalNamed "tithebarn/sum.nibbles" = some 1 := by kernel_rfl
theorem gTabType : (Tryz.prog.globals[1]?).map (·.type) = some 191 := by kernel_rfl
theorem cellsTab : Tryz.prog.cellsOf 191 = 16 := by kernel_rfl
theorem cellsU32 : Tryz.prog.cellsOf 97 = 1 := by kernel_rfl

theorem table {W : World} (h : laidMetH Tryz.prog [("tithebarn/sum.nibbles", Rows.laid_tithebarn_sum_nibbles)] W) : Tab W := by
  have h1 : Lib.TabIs Tryz.prog W "tithebarn/sum.nibbles" .u32 (Crc.nib.map fun (n : Nat) => (n : Int)) :=
    Lib.tabIs_of_head (rest := []) gTab gTabType Tryz.underlying191 Tryz.underlying97 cellsU32 cellsTab h
  intro i hi
  have h2 := h1.cell gTab i (by simpa [Crc.nib] using hi)
  rw [h2]
  have h3 : ∀ i : Fin 16, (Crc.nib.map fun (n : Nat) => (n : Int)).getD i.val 0 = ((Crc.nibAt i.val : Nat) : Int) := by decide
  rw [h3 ⟨i, hi⟩]

/-- A WORLD FOR THE WITNESSES: the settled one, the table holding what its initialiser lays. -/
noncomputable def laidWorld (os : Os) : World :=
  { World.holding Tryz.prog os ⟨#[], #[], []⟩ with heap := (World.holding Tryz.prog os ⟨#[], #[], []⟩).heap.modify 1 fun
      | .cells _ t frozen => .cells #[.int .u32 0, .int .u32 274646895, .int .u32 549293790, .int .u32 820201905, .int .u32 1098587580, .int .u32 1361435347, .int .u32 1640403810, .int .u32 1905808397, .int .u32 2197175160, .int .u32 2460548119, .int .u32 2722870694, .int .u32 2987750089, .int .u32 3280807620, .int .u32 3553878443, .int .u32 3811616794, .int .u32 4084100981] t frozen
      | o => o }
end Go.Proofs.YtlobnbbndkhcbaaGreatDoor

/- A text that came in, opened. -/
namespace Go.Proofs.YtlobnbbndkhcbaaGreatDoor
set_option linter.unusedVariables false
set_option maxRecDepth 20000
open Go.ChangeShapes Go.WideShapes Go.ChangeAt Go.RowKit Go.Deep

section
variable {H : Type} {enc : TypeId × Value → H} {w : World} {base : Nat} {spare : Nat → Bool} {held : Bool}
theorem text_of {r : Reach} {b0 : Nat} {v : Value} {d : DataW H} {p : List MemPlace}
    (hv : Value.okWide Tryz.prog w r b0 9 v) (h : DataW.Trod enc Tryz.prog w base spare held 9 v d p) : ∃ s : ByteArray, v = .string s ∧ s.size ≤ maxLen := by
  obtain ⟨s, rfl⟩ := okWide_string Tryz.underlying9 hv
  obtain ⟨fuel, hf⟩ := h
  obtain ⟨s', e, _, hs⟩ := DataW.trod_string Tryz.underlying9 hf
  have e' : [Value.string s] = [Value.string s'] := e
  simp only [List.cons.injEq, Value.string.injEq, and_true] at e'
  exact ⟨s, rfl, e' ▸ hs⟩
end
end Go.Proofs.YtlobnbbndkhcbaaGreatDoor
