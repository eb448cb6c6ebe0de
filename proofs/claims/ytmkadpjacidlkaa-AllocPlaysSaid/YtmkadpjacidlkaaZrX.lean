/-
  Layer 7, the program's own device: Crash.
-/
import Derived.Test.YtmkadpjacidlkaaZrK
import Derived.Test.YtmkadpjacidlkaaZrM
namespace Go.Proofs.Ytmkadpjacidlkaa
set_option linter.unusedVariables false
open Go.RowKit

def crxs (size : Nat) (ks : List Int) (xs : List Zm) : List Zm := xs.mapIdx fun i x => crx size x (ks.getD i 0).toNat
theorem crxs_get {size : Nat} {ks : List Int} {xs : List Zm} {k : Nat} {x : Zm} (hx : xs[k]? = some x) : (crxs size ks xs)[k]? = some (crx size x (ks.getD k 0).toNat) := by
  unfold crxs
  rw [List.getElem?_mapIdx, hx]
  rfl
theorem crxs_length (size : Nat) (ks : List Int) (xs : List Zm) : (crxs size ks xs).length = xs.length := by simp [crxs]
def craK (m : Dev) (ks : List Int) (k : Nat) : Dev := { m with zs := upto m.zs (crashL m.size m.zs ks) k }
theorem cra_step {m : Dev} {xs : List Zm} (hm : xs.map Zm.z = m.zs) (ks : List Int) {k : Nat} {x : Zm} (hx : xs[k]? = some x) : setZ (craK m ks k) (k : Int) (crashZ m.size x.z (ks.getD k 0).toNat) = craK m ks (k + 1) := by
  have hk : k < xs.length := by
    rcases Nat.lt_or_ge k xs.length with h' | h'
    · exact h'
    · rw [List.getElem?_eq_none h'] at hx; cases hx
  have hk2 : k < m.zs.length := by rw [← hm, List.length_map]; exact hk
  have hz : m.zs.getD k zn0 = x.z := by rw [← hm, List.getD_eq_getElem?_getD, List.getElem?_map, hx]; rfl
  show ({ m with zs := (upto m.zs (crashL m.size m.zs ks) k).set (k : Int).toNat (crashZ m.size x.z (ks.getD k 0).toNat) } : Dev) = _
  rw [show (k : Int).toNat = k from rfl, upto_set (crashL_length ..) hk2 (by rw [crashL_get _ _ _ _ hk2, hz])]
  rfl
section
variable {w : World} {d : Nat} {F : Nat → Prop} {m : Dev}
set_option maxRecDepth 20000 in
set_option maxHeartbeats 1600000 in
theorem crash_c (h : Dz w d F m) (hw : WF m) (a : Option Addr) (c : Nat) (ks : List Int) (hkc : ks.length ≤ c) (hcm : c ≤ maxLen) (hi : Ints w a ks) (hb : 0 < ks.length → ∀ b o, a = some ⟨b, o, none⟩ → ¬ F b) :
    Calls Try.prog 19 #[.pointer (some ⟨d, 0, none⟩), .slice a ks.length c] w (MovD d F (crashM m ks) (.tuple #[]) w) := by
  have hn64 := hw.n64
  have hs64 := Lib.hid hw.s64
  have HOK := Lib.hid hw.z
  obtain ⟨h0, zb, xs, ar, lf, h1, hF⟩ := h
  have H0 := Lib.hid h0
  have HFF := Lib.hid hF
  have HINT := Lib.hid hi
  have HNB := Lib.hid (fun (h : 0 < ks.length) b o (e : a = some ⟨b, o, none⟩) => show ¬ One zb b from fun e2 => hb h b o e (by rw [show b = zb from e2]; exact hF.2.1))
  have hlen := Lib.hid h1.len
  have hmz := Lib.hid h1.mz
  obtain ⟨_, _, _, c3, _, _, _, _⟩ := h1.cells
  have hdz := h1.ne
  have HROW := Lib.hid (fun (k : Nat) (x : Zm) (hx : xs[k]? = some x) => show x.c ≤ maxLen ∧ x.z.b.length ≤ x.c by
    obtain ⟨a', cap, e, h2, h3, _⟩ := (h1.row k x hx).form
    simp only [Value.slice.injEq] at e
    obtain ⟨_, _, rfl⟩ := e
    exact ⟨h3, h2⟩)
  have hk0 : DzAt w d zb (upto xs (crxs m.size ks xs) 0) (craK m ks 0) ar lf := by
    unfold craK
    rw [upto_zero, upto_zero]
    exact h1
  have HK0 := Lib.hid hk0
  clear h1 hk0 h0 hF hi hb hw hkc hcm
  obtain ⟨n, hN⟩ : ∃ n, m.zs.length = n := ⟨_, rfl⟩
  rw [hN] at c3 hn64
  have HN := Lib.hid hN
  clear hN
  obtain ⟨kl, hKL⟩ : ∃ n, ks.length = n := ⟨_, rfl⟩
  rw [hKL] at HNB ⊢
  have HKL := Lib.hid hKL
  clear hKL
  go_enter Try.func19, Try.ntmps19
  go_wp2_with fail
  go_loopw [11] (fun i wr => ∃ k : Nat, i = .int .i64 k ∧ k ≤ n ∧ DzAt wr d zb (upto xs (crxs m.size ks xs) k) (craK m ks k) ar lf ∧ Fr (One zb) w wr) (fun i _ => n - (intOf i).toNat)
  case atStart => exact ⟨0, rfl, Nat.zero_le _, HK0.out, Fr.refl _ _⟩
  case round =>
    obtain ⟨k, rfl, hk, hz, hfr⟩ := hrel
    have c3 := hfr.cell c3 (fun e => hdz (show d = zb from e))
    by_cases hkn : k < n
    · have d1 : decide ((k : Int) < (n : Int)) = true := by rw [decide_eq_true_eq]; omega
      have hkx : k < xs.length := by rw [hlen.out, HN.out]; exact hkn
      obtain ⟨x, hx⟩ : ∃ x, xs[k]? = some x := ⟨_, List.getElem?_eq_getElem hkx⟩
      have hx' : (upto xs (crxs m.size ks xs) k)[k]? = some x := by rw [upto_get (crxs_length ..) hkx, hx]
      have C := Lib.hid (fun kept (e : kept = ks.getD k 0) => by
        subst e
        have := crash1_c hz hx' (HOK.out x.z (by rw [← hmz.out]; exact List.mem_map.2 ⟨x, List.mem_of_getElem? hx, rfl⟩)) hs64.out (HROW.out k x hx).1 (HROW.out k x hx).2 (ks.getD k 0)
        rw [show (craK m ks k).size = m.size from rfl, upto_set (crxs_length ..) hkx (crxs_get hx), cra_step hmz.out ks hx] at this
        exact this)
      have HFR := Lib.hid hfr
      have HX := Lib.hid hx
      clear hz hfr hx hx' hkx
      by_cases hkk : k < kl
      · have d2 : decide ((k : Int) < (kl : Int)) = true := by rw [decide_eq_true_eq]; omega
        obtain ⟨b, o, rfl, hc⟩ := HINT.out (by rw [HKL.out]; omega)
        obtain ⟨p, q⟩ := hc k (ks.getD k 0) (by rw [List.getD_eq_getElem?_getD, List.getElem?_eq_getElem (by rw [HKL.out]; exact hkk)]; rfl)
        have p := HFR.out.cell p (HNB.out (by omega) b o rfl)
        have C := Lib.hid (C.out _ rfl)
        clear hc q
        generalize ks.getD k 0 = kept at *
        go_wp2_with fail
        refine C.out.mono ?_
        rintro e w2 ⟨rfl, g1, g2⟩
        have G1 := Lib.hid g1
        have G2 := Lib.hid g2
        clear g1 g2 C
        go_wp2_with fail
        go_roundw
        case rel => exact ⟨k + 1, by simp, by omega, G1.out, HFR.out.trans G2.out⟩
        case measure => simp [intOf]; omega
      · have d2 : decide ((k : Int) < (kl : Int)) = false := by rw [decide_eq_false_iff_not]; omega
        have C := C.out _ rfl
        rw [show ks.getD k 0 = 0 by rw [List.getD_eq_getElem?_getD, List.getElem?_eq_none (by rw [HKL.out]; omega)]; rfl] at C
        have C := Lib.hid C
        go_wp2_with fail
        refine C.out.mono ?_
        rintro e w2 ⟨rfl, g1, g2⟩
        have G1 := Lib.hid g1
        have G2 := Lib.hid g2
        clear g1 g2 C
        go_wp2_with fail
        go_roundw
        case rel => exact ⟨k + 1, by simp, by omega, G1.out, HFR.out.trans G2.out⟩
        case measure => simp [intOf]; omega
    · obtain rfl : k = n := by omega
      have d1 : decide ((k : Int) < (k : Int)) = false := by simp
      have hf2 : Fr F w wr := hfr.sub fun b _ hb => by rw [show b = zb from hb]; exact HFF.out.2.1
      rw [show upto xs (crxs m.size ks xs) k = crxs m.size ks xs by rw [← HN.out, ← hlen.out]; exact upto_all (crxs_length ..)] at hz
      have HD : Dz wr d F (craK m ks k) := ⟨fun b h => Nat.lt_of_lt_of_le (H0.out b h) hfr.size, zb, _, ar, lf, hz, HFF.out.1, HFF.out.2.1, fun y hy b hb => by
        unfold crxs at hy
        obtain ⟨i, hi, rfl⟩ := List.mem_mapIdx.1 hy
        refine HFF.out.2.2 xs[i] (List.getElem_mem hi) b ?_
        show (Value.slice xs[i].a xs[i].z.b.length xs[i].c).ownBlock = some b
        have hb : (Value.slice xs[i].a (crx m.size xs[i] (ks.getD i 0).toNat).z.b.length xs[i].c).ownBlock = some b := hb
        generalize xs[i].a = ad at *
        cases ad <;> exact hb⟩
      have C := Lib.hid (arm_c HD (-1) (by decide))
      have HF2 := Lib.hid hf2
      have e2 : crashM m ks = { armM (craK m ks k) (-1) with down := false } := by
        show ({ m with zs := crashL m.size m.zs ks, arm := none, down := false } : Dev) = { m with zs := upto m.zs (crashL m.size m.zs ks) k, arm := none, down := false }
        rw [← HN.out, upto_all (crashL_length ..)]
      have e2 := Lib.hid e2
      clear hz hfr hf2 HD
      generalize armM (craK m ks k) (-1) = M at *
      go_wp2_with fail
      refine C.out.mono ?_
      rintro e w2 ⟨rfl, hD, hf⟩
      have HF3 := Lib.hid hf
      have HD := Lib.hid hD
      obtain ⟨h0, zb', xs', ar', lf', h1, hF⟩ := hD
      clear c3
      obtain ⟨c0, c1, c2, c3, c4, c5, c6, c7⟩ := h1.cells
      have q7 := h1.hd.frozen 7
      have f : Fr (One d) w2 (w2.setCell ⟨d, 7, none⟩ (.bool false)) := (Fr.refl (One d) w2).setCell (p := ⟨d, 7, none⟩) (fun _ => (rfl : d = d)) _
      have R := HD.out.turn f hF (h1.turn (m' := { M with down := false }) f (by simpa [dvC] using h1.hd.set_ 7 (.bool false)) rfl h1.arm)
      have R := Lib.hid R
      clear h1 hF f C hf
      generalize M.zs.length = l at *
      generalize M.down = dw at *
      go_wp2_with fail
      go_end0
      rw [e2.out]
      exact ⟨rfl, F, R.out.1, fun _ h => .inl h, (HF2.out.trans HF3.out).trans R.out.2⟩
end
end Go.Proofs.Ytmkadpjacidlkaa
