/-
  Layer 7, the program's own device: Flush.
-/
import Derived.Test.YtcekgalppbfnhaaDoorZrQ
import Derived.Test.YtcekgalppbfnhaaDoorZrV
namespace Go.Proofs.YtcekgalppbfnhaaDoor
set_option linter.unusedVariables false
open Go.RowKit

def flz (x : Zn) : Zn := { x with f := x.b.length }
def flx (x : Zm) : Zm := { x with z := flz x.z }
def fluK (m : Dev) (k : Nat) : Dev := { m with zs := upto m.zs (m.zs.map flz) k }
theorem pow_flu (m : Dev) : powM (allFlushed m) = allFlushed (powM m) := by
  obtain ⟨zs, size, opn, arm, done, down⟩ := m
  cases arm with
  | none => rfl
  | some k => cases k <;> rfl
theorem flu_step {w : World} {d zb : Nat} {xs : List Zm} {m : Dev} {ar : Bool} {lf : Int} {k : Nat} (hl : xs.length = m.zs.length) (hm : xs.map Zm.z = m.zs) (h : DzAt w d zb (upto xs (xs.map flx) k) (fluK m k) ar lf) {x : Zm} (hx : xs[k]? = some x) :
    DzAt (w.setCell ⟨zb, k * 3 + 1, none⟩ (.int .i64 (x.z.b.length : Int))) d zb (upto xs (xs.map flx) (k + 1)) (fluK m (k + 1)) ar lf ∧ Fr (One zb) w (w.setCell ⟨zb, k * 3 + 1, none⟩ (.int .i64 (x.z.b.length : Int))) := by
  have hk : k < xs.length := by
    rcases Nat.lt_or_ge k xs.length with h' | h'
    · exact h'
    · rw [List.getElem?_eq_none h'] at hx; cases hx
  have hx' : (upto xs (xs.map flx) k)[k]? = some x := by rw [upto_get (by simp) hk, hx]
  have f2 : Fr (One zb) w (w.setCell ⟨zb, k * 3 + 1, none⟩ (.int .i64 (x.z.b.length : Int))) := (Fr.refl (One zb) w).setCell (p := ⟨zb, k * 3 + 1, none⟩) (fun _ => (rfl : zb = zb)) _
  refine ⟨?_, f2⟩
  have := h.put hx' (x' := flx x) (Fr.refl _ _) ⟨(h.row k x hx').1, fun b hb => .inl hb⟩ f2 (by
    show At _ zb _ (zsC ((upto xs (xs.map flx) k).set k { x with z := { x.z with f := x.z.b.length } })).toArray
    rw [zsC_1 hx']
    exact h.hz.set_ _ _)
  rw [upto_set (by simp) hk (by rw [List.getElem?_map, hx]; rfl)] at this
  have e : setZ (fluK m k) (k : Int) (flx x).z = fluK m (k + 1) := by
    unfold setZ fluK
    show ({ m with zs := (upto m.zs (m.zs.map flz) k).set (k : Int).toNat (flz x.z) } : Dev) = _
    rw [show (k : Int).toNat = k from rfl, upto_set (by simp) (by omega) (by rw [List.getElem?_map, ← hm, List.getElem?_map, hx]; rfl)]
  rw [e] at this
  exact this
section
variable {w : World} {d : Nat} {F : Nat → Prop} {m : Dev}
set_option maxRecDepth 20000 in
set_option maxHeartbeats 1600000 in
theorem flush_c (h : Dz w d F m) (hd : m.done < 1000000) (hn : m.zs.length ≤ 64) :
    Calls Tryd.prog 44 #[.pointer (some ⟨d, 0, none⟩)] w (MovD d F (fluM m) (.int .i64 (cmdR m (fluErr m))) w) := by
  have CC := Lib.hid (command_c h hd)
  have HD := Lib.hid h
  obtain ⟨_, zb, xs, ar, lf, hz1, _⟩ := h
  obtain ⟨c0, c1, c2, c3, c4, c5, c6, c7⟩ := hz1.cells
  cases he : m.down with
  | true =>
    rw [he] at c7
    have e1 : fluErr m = 74 := by unfold fluErr; rw [he]; rfl
    rw [e1, show fluM m = m by unfold fluM; rw [e1]; rfl, show cmdR m 74 = 74 from rfl]
    clear hz1 he e1 hd CC hn
    go_enter Tryd.func44, Tryd.ntmps44
    go_wp2_with fail
    go_ret
    exact StayD.mov ⟨rfl, HD.out, Fr.refl _ _⟩
  | false =>
    rw [he] at c7
    have e1 : fluErr m = 0 := by unfold fluErr; rw [he]; rfl
    rw [e1]
    rcases cmdR0 m with ⟨h1, h2⟩ | ⟨h1, h2⟩
    · rw [h2] at CC ⊢
      rw [show fluM m = allFlushed (powM m) by unfold fluM; rw [if_pos e1, if_pos h1, pow_flu]]
      rw [← dpow_zs m] at hn
      clear hz1 he e1 hd h1 h2 HD c0 c1 c2 c3 c4 c5 c6
      generalize powM m = M at *
      go_enter Tryd.func44, Tryd.ntmps44
      go_wp2_with fail
      refine CC.out.mono ?_
      rintro e w1 ⟨rfl, ⟨h0, zb, xs, ar, lf, h1, hF⟩, hf⟩
      have HF := Lib.hid hf
      have H0 := Lib.hid h0
      have HFF := Lib.hid hF
      clear CC hf c7 h0 hF
      have hlen := Lib.hid h1.len
      have hmz := Lib.hid h1.mz
      obtain ⟨_, _, _, c3, _, _, _, _⟩ := h1.cells
      have hdz := h1.ne
      have hk0 : DzAt w1 d zb (upto xs (xs.map flx) 0) (fluK M 0) ar lf := by
        unfold fluK
        rw [upto_zero, upto_zero]
        exact h1
      have HK0 := Lib.hid hk0
      clear h1 hk0
      obtain ⟨n, hN⟩ : ∃ n, M.zs.length = n := ⟨_, rfl⟩
      rw [hN] at c3 hn
      have HN := Lib.hid hN
      clear hN
      go_wp2_with fail
      go_loopw [19] (fun i wr => ∃ k : Nat, i = .int .i64 k ∧ k ≤ n ∧ DzAt wr d zb (upto xs (xs.map flx) k) (fluK M k) ar lf ∧ Fr (One zb) w1 wr) (fun i _ => n - (intOf i).toNat)
      case atStart => exact ⟨0, rfl, Nat.zero_le _, HK0.out, Fr.refl _ _⟩
      case round =>
        obtain ⟨k, rfl, hk, hz, hfr⟩ := hrel
        have c3 := hfr.cell c3 (fun e => hdz (show d = zb from e))
        by_cases hkn : k < n
        · have d1 : decide ((k : Int) < (n : Int)) = true := by rw [decide_eq_true_eq]; omega
          obtain ⟨x, hx⟩ : ∃ x, xs[k]? = some x := ⟨_, List.getElem?_eq_getElem (by rw [hlen.out, HN.out]; exact hkn)⟩
          have hx' : (upto xs (xs.map flx) k)[k]? = some x := by rw [upto_get (by simp) (by rw [hlen.out, HN.out]; exact hkn), hx]
          obtain ⟨g0, g1, _⟩ := zsC_get _ k x hx'
          have z0 : wr.cell? ⟨zb, k * 3, none⟩ = some (.slice x.a x.z.b.length x.c) := by rw [hz.hz.cell, List.getElem?_toArray, g0]
          have z1 : wr.cell? ⟨zb, k * 3 + 1, none⟩ = some (.int .i64 (x.z.f : Int)) := by rw [hz.hz.cell, List.getElem?_toArray, g1]
          have q1 := hz.hz.frozen (k * 3 + 1)
          obtain ⟨n1, n2⟩ := flu_step hlen.out hmz.out hz hx
          have N1 := Lib.hid n1
          have N2 := Lib.hid (hfr.trans n2)
          clear n1 n2 hz hfr hx hx' g0 g1
          generalize x.z.b.length = bl at *
          generalize x.z.f = xf at *
          go_wp2_with fail
          go_region
          go_wp2_with fail
          go_roundw
          case rel => exact ⟨k + 1, by simp, by omega, N1.out.keep ((Fr.refl No _).drew) (fun h => h) (fun h => h) (fun _ _ _ _ h => h), N2.out.drew⟩
          case measure => simp [intOf]; omega
        · obtain rfl : k = n := by omega
          have d1 : decide ((k : Int) < (k : Int)) = false := by simp
          have HZ := Lib.hid hz
          have HFR := Lib.hid hfr
          clear hz hfr
          go_wp2_with fail
          go_ret
          have e2 : fluK M k = allFlushed M := by
            unfold fluK allFlushed
            rw [← HN.out, upto_all (by simp)]
            rfl
          have hz := HZ.out
          rw [e2] at hz
          have hf2 : Fr F w1 wr := HFR.out.sub fun b _ hb => by rw [show b = zb from hb]; exact HFF.out.2.1
          refine mov2 HF.out hf2 ⟨fun b hb => hb.elim (fun h => Nat.lt_of_lt_of_le (H0.out b h) HFR.out.size) (fun h => h.2), zb, _, ar, lf, hz, .inl HFF.out.1, .inl HFF.out.2.1, fun y hy b hb => .inl ?_⟩
          rw [← HN.out, ← hlen.out, upto_all (by simp)] at hy
          obtain ⟨x, hx, rfl⟩ := List.mem_map.1 hy
          exact HFF.out.2.2 x hx b hb
    · rw [h2] at CC ⊢
      rw [show fluM m = powM m by unfold fluM; rw [if_pos e1, if_neg (by rw [h1]; simp)]]
      clear hz1 he e1 hd h1 h2 HD c0 c1 c2 c3 c4 c5 c6 hn
      generalize powM m = M at *
      go_enter Tryd.func44, Tryd.ntmps44
      go_wp2_with fail
      refine CC.out.mono ?_
      rintro e w1 ⟨rfl, hm⟩
      have HM := Lib.hid hm
      clear hm
      go_wp2_with fail
      go_ret
      exact StayD.mov ⟨rfl, HM.out⟩
end
end Go.Proofs.YtcekgalppbfnhaaDoor
