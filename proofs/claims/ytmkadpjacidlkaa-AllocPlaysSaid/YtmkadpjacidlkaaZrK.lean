/-
  Layer 7, the program's own device: a zone's crash.
-/
import Derived.Test.YtmkadpjacidlkaaZrQ
import Derived.Test.YtmkadpjacidlkaaZrV
namespace Go.Proofs.Ytmkadpjacidlkaa
set_option linter.unusedVariables false
open Go.RowKit

theorem Row.cut {w : World} {S : Nat → Prop} {a : Option Addr} {n c : Nat} {l : List UInt8} (h : Row w S (.slice a n c) l) (k : Nat) (hk : k ≤ l.length) : Row w S (.slice a k c) (l.take k) := by
  obtain ⟨⟨h1, h2⟩, h3⟩ := h
  have hl : (l.take k).length = k := by rw [List.length_take]; omega
  refine ⟨⟨by rw [List.length_map]; omega, ?_⟩, fun b hb => h3 b (by cases a <;> exact hb)⟩
  rcases h2 with ⟨h2, h4⟩ | ⟨g, cap, cur, h2, hb, hg, hn, hm, hc, ht⟩
  · obtain ⟨rfl, _, rfl⟩ : a = none ∧ n = 0 ∧ c = 0 := by simpa using h2
    obtain rfl : k = 0 := by omega
    exact .inl ⟨rfl, by rw [List.take_zero]; rfl⟩
  · obtain ⟨rfl, _, rfl⟩ : a = some ⟨g, 0, none⟩ ∧ n = l.length ∧ c = cap := by simpa using h2
    refine .inr ⟨g, c, cur, by rw [hl], Nat.zero_le _, hg, by omega, hm, hc, ?_⟩
    rw [hl, List.map_take, ← ht, List.take_take]
    congr 1
    omega
def crx (size : Nat) (x : Zm) (k : Nat) : Zm := { x with z := crashZ size x.z k }
theorem crashZ_len (size : Nat) {x : Zn} (h : x.f ≤ x.b.length) (k : Nat) : (crashZ size x k).b.length = (crashZ size x k).f := by
  show (x.b.take (x.f + min k (x.b.length - x.f))).length = x.f + min k (x.b.length - x.f)
  rw [List.length_take]
  omega
theorem DzAt.crash {w w' : World} {d zb : Nat} {xs : List Zm} {m : Dev} {ar : Bool} {lf : Int} (h : DzAt w d zb xs m ar lf) {k : Nat} {x : Zm} (hx : xs[k]? = some x) (hok : ZOK m.size x.z) (kn : Nat) (f2 : Fr (One zb) w w')
    (hz : At w' zb 67 (zsC (xs.set k (crx m.size x kn))).toArray) : DzAt w' d zb (xs.set k (crx m.size x kn)) (setZ m k (crashZ m.size x.z kn)) ar lf := by
  refine h.put hx (x' := crx m.size x kn) (Fr.refl _ _) ?_ f2 hz
  have hr : Row w (fun b => Own x b ∨ w.heap.size ≤ b) (.slice x.a x.z.b.length x.c) x.z.b := ⟨(h.row k x hx).1, fun b hb => .inl hb⟩
  have := hr.cut (x.z.f + min kn (x.z.b.length - x.z.f)) (by have := hok.f; omega)
  have e : (crx m.size x kn).z.b.length = x.z.f + min kn (x.z.b.length - x.z.f) := crashZ_len m.size hok.f kn
  rw [e]
  exact this
/-- What the program stores is what the document says. -/
theorem crashZ_s {size : Nat} {x : Zn} (hok : ZOK size x) (k : Nat) : (crashZ size x k).s = if (crashZ size x k).f = 0 then 0 else x.s := by
  show (if x.f + min k (x.b.length - x.f) = 0 then 0 else if x.s = 2 ∨ x.f + min k (x.b.length - x.f) = size then 2 else 1) = if x.f + min k (x.b.length - x.f) = 0 then 0 else x.s
  have h1 := hok.f
  have h2 := hok.l
  have h3 := hok.s
  split
  · rfl
  · rename_i h4
    have h5 : x.s ≠ 0 := fun e => by
      have := hok.e e
      rw [this] at h1 h4
      simp at h1 h4
      omega
    split
    · rename_i h6
      rcases h6 with h6 | h6
      · exact h6.symm
      · rcases Nat.lt_or_ge x.s 2 with h7 | h7
        · have := hok.o (by omega)
          omega
        · omega
    · omega
set_option maxRecDepth 20000 in
set_option maxHeartbeats 1600000 in
theorem crash1_c {w : World} {d zb : Nat} {xs : List Zm} {m : Dev} {ar : Bool} {lf : Int} (h : DzAt w d zb xs m ar lf) {k : Nat} {x : Zm} (hx : xs[k]? = some x) (hok : ZOK m.size x.z) (hsz : m.size ≤ 65536) (hc : x.c ≤ maxLen) (hlc : x.z.b.length ≤ x.c) (kept : Int) :
    Calls Try.prog 38 #[.pointer (some ⟨zb, k * 3, none⟩), .int .i64 kept] w fun e w' => e = .returned (.tuple #[]) ∧ DzAt w' d zb (xs.set k (crx m.size x kept.toNat)) (setZ m k (crashZ m.size x.z kept.toNat)) ar lf ∧ Fr (One zb) w w' := by
  obtain ⟨g0, g1, g2⟩ := zsC_get xs k x hx
  have z0 : w.cell? ⟨zb, k * 3, none⟩ = some (.slice x.a x.z.b.length x.c) := by rw [h.hz.cell, List.getElem?_toArray, g0]
  have z1 : w.cell? ⟨zb, k * 3 + 1, none⟩ = some (.int .i64 (x.z.f : Int)) := by rw [h.hz.cell, List.getElem?_toArray, g1]
  have z2 : w.cell? ⟨zb, k * 3 + 2, none⟩ = some (.int .i64 (x.z.s : Int)) := by rw [h.hz.cell, List.getElem?_toArray, g2]
  have q0 := h.hz.frozen (k * 3)
  have q1 := h.hz.frozen (k * 3 + 1)
  have q2 := h.hz.frozen (k * 3 + 2)
  have hat := Lib.hid h.hz
  have HPUT := Lib.hid (fun (w' : World) => h.crash (w' := w') hx hok kept.toNat)
  have hs := crashZ_s hok kept.toNat
  have hln := crashZ_len m.size hok.f kept.toNat
  have hfl := hok.f
  have hll := hok.l
  obtain ⟨f', hf'⟩ : ∃ f', (crashZ m.size x.z kept.toNat).f = f' := ⟨_, rfl⟩
  have hfd : f' = x.z.f + min kept.toNat (x.z.b.length - x.z.f) := hf'.symm
  rw [hf'] at hs hln
  have hcut := fun w => cut_hi (P := Try.prog) Try.underlying46 (size_one cellsU8 (by obtain ⟨i0, hi, _, hz1, _⟩ := info_parts infoU8; exact ⟨i0, hi, hz1⟩)) x.a x.z.b.length x.c f' (by omega) w
  have HXS : Hid (∀ w', At w' zb 67 (if f' = 0 then (((zsC xs).toArray.setIfInBounds (k * 3 + 1) (.int .i64 (f' : Int))).setIfInBounds (k * 3) (.slice x.a f' x.c)).setIfInBounds (k * 3 + 2) (.int .i64 0) else ((zsC xs).toArray.setIfInBounds (k * 3 + 1) (.int .i64 (f' : Int))).setIfInBounds (k * 3) (.slice x.a f' x.c)) → At w' zb 67 (zsC (xs.set k (crx m.size x kept.toNat))).toArray) := Lib.hid fun w' hw' => by
    by_cases h0 : f' = 0
    · rw [if_pos h0] at hw' hs
      rw [zsC_102]
      show At w' zb _ ((((zsC xs).toArray.setIfInBounds (k * 3 + 1) (.int .i64 ((crashZ m.size x.z kept.toNat).f : Int))).setIfInBounds (k * 3) (.slice x.a (crashZ m.size x.z kept.toNat).b.length x.c)).setIfInBounds (k * 3 + 2) (.int .i64 ((crashZ m.size x.z kept.toNat).s : Int)))
      rw [hf', hln, hs]
      exact hw'
    · rw [if_neg h0] at hw' hs
      rw [zsC_10 hx (crx m.size x kept.toNat) hs]
      show At w' zb _ ((((zsC xs).toArray.setIfInBounds (k * 3 + 1) (.int .i64 ((crashZ m.size x.z kept.toNat).f : Int))).setIfInBounds (k * 3) (.slice x.a (crashZ m.size x.z kept.toNat).b.length x.c)))
      rw [hf', hln]
      exact hw'
  clear hs hln hf' h hok hc hlc g0 g1 g2
  generalize crashZ m.size x.z kept.toNat = CZ at *
  generalize crx m.size x kept.toNat = CX at *
  generalize x.z.s = st at *
  obtain ⟨f, hff⟩ : ∃ f, x.z.f = f := ⟨_, rfl⟩
  rw [hff] at hfl hfd z1
  obtain ⟨len, hlen⟩ : ∃ n, x.z.b.length = n := ⟨_, rfl⟩
  rw [hlen] at hfl hll hfd z0 hcut
  clear hff hlen
  obtain ⟨u, rfl⟩ : ∃ u, len = f + u := ⟨len - f, by omega⟩
  rw [show f + u - f = u by omega] at hfd
  have w1 : IntKind.i64.wrap (((f + u : Nat) : Int) - (f : Int)) = (u : Int) := by
    simp [IntKind.wrap, IntKind.signed, IntKind.bits]
    omega
  have hcase : (kept < 0 ∧ f' = f) ∨ (∃ K : Nat, kept = (K : Int) ∧ K ≤ u ∧ f' = f + K) ∨ (∃ K : Nat, kept = (K : Int) ∧ u < K ∧ f' = f + u) := by
    rcases Int.lt_or_le kept 0 with h | h
    · exact .inl ⟨h, by omega⟩
    · rcases Nat.lt_or_ge u kept.toNat with h2 | h2
      · exact .inr (.inr ⟨kept.toNat, by omega, h2, by omega⟩)
      · exact .inr (.inl ⟨kept.toNat, by omega, h2, by omega⟩)
  clear hfd
  obtain ⟨len, hlen⟩ : ∃ n, f + u = n := ⟨_, rfl⟩
  rw [hlen] at w1 z0 hcut
  have hll : f + u ≤ 65536 := by omega
  clear hlen
  have HEND : Hid (∀ wz, Fr (One zb) w wz → ∀ B, At wz zb 67 B → (f' ≠ 0 → B = ((zsC xs).toArray.setIfInBounds (k * 3 + 1) (.int .i64 (f' : Int))).setIfInBounds (k * 3) (.slice x.a f' x.c)) → (f' = 0 → B = (((zsC xs).toArray.setIfInBounds (k * 3 + 1) (.int .i64 (f' : Int))).setIfInBounds (k * 3) (.slice x.a f' x.c)).setIfInBounds (k * 3 + 2) (.int .i64 0)) →
      DzAt wz d zb (xs.set k CX) (setZ m k CZ) ar lf ∧ Fr (One zb) w wz) := Lib.hid fun wz hf B hB h1 h2 => by
    refine ⟨HPUT.out wz hf (HXS.out wz ?_), hf⟩
    by_cases h0 : f' = 0
    · rw [if_pos h0, ← h2 h0]
      exact hB
    · rw [if_neg h0, ← h1 h0]
      exact hB
  clear HPUT HXS
  by_cases h0 : f' = 0
  · subst h0
    obtain rfl : f = 0 := by omega
    have FB : Fr (One zb) w ((w.setCell ⟨zb, k * 3 + 1, none⟩ (.int .i64 0)).setCell ⟨zb, k * 3, none⟩ (.slice x.a 0 x.c)) := ((Fr.refl (One zb) w).setCell (p := ⟨zb, k * 3 + 1, none⟩) (fun _ => (rfl : zb = zb)) _).setCell (p := ⟨zb, k * 3, none⟩) (fun _ => (rfl : zb = zb)) _
    have FC := Lib.hid (FB.setCell (p := ⟨zb, k * 3 + 2, none⟩) (fun _ => (rfl : zb = zb)) (.int .i64 0))
    have hcut : ∀ w, (Instr.slice 46 (.slice x.a len x.c) none (some (.int .i64 0)) none).run Try.prog w = .ok (.slice x.a 0 x.c) w := hcut
    have z1 : w.cell? ⟨zb, k * 3 + 1, none⟩ = some (.int .i64 0) := z1
    have w3 : IntKind.i64.wrap (len : Int) = (u : Int) := by
      have := w1
      rwa [show ((0 : Nat) : Int) = 0 from rfl, Int.sub_zero] at this
    have w1 : IntKind.i64.wrap ((len : Int) - 0) = (u : Int) := w1
    clear FB
    have hcase : kept < 0 ∨ kept = 0 ∨ (0 < kept ∧ u = 0) := by
      rcases hcase with ⟨h1, _⟩ | ⟨K, rfl, _, h1⟩ | ⟨K, rfl, h1, h2⟩ <;> omega
    rcases hcase with h1 | rfl | ⟨h1, rfl⟩
    · go_enter Try.func38, Try.ntmps38
      go_wp2_with fail
      go_region
      go_wp2_with fail
      go_region
      go_wp2_with fail
      go_end0
      exact ⟨rfl, HEND.out _ FC.out.drew.drew _ (((hat.out.set_ (k * 3 + 1) (.int .i64 0)).set_ (k * 3) (.slice x.a 0 x.c)).set_ (k * 3 + 2) (.int .i64 0)) (fun h => absurd rfl h) (fun _ => rfl)⟩
    · go_enter Try.func38, Try.ntmps38
      go_wp2_with fail
      go_region
      go_wp2_with fail
      go_region
      go_wp2_with fail
      go_end0
      exact ⟨rfl, HEND.out _ FC.out.drew.drew _ (((hat.out.set_ (k * 3 + 1) (.int .i64 0)).set_ (k * 3) (.slice x.a 0 x.c)).set_ (k * 3 + 2) (.int .i64 0)) (fun h => absurd rfl h) (fun _ => rfl)⟩
    · have w3 : IntKind.i64.wrap (len : Int) = 0 := w3
      have w1 : IntKind.i64.wrap ((len : Int) - 0) = 0 := w1
      go_enter Try.func38, Try.ntmps38
      go_wp2_with fail
      go_region
      go_wp2_with fail
      go_region
      go_wp2_with fail
      go_end0
      exact ⟨rfl, HEND.out _ FC.out.drew.drew _ (((hat.out.set_ (k * 3 + 1) (.int .i64 0)).set_ (k * 3) (.slice x.a 0 x.c)).set_ (k * 3 + 2) (.int .i64 0)) (fun h => absurd rfl h) (fun _ => rfl)⟩
  · have d0 : ((f' : Int) == 0) = false := by rw [beq_eq_false_iff_ne]; omega
    have FB := Lib.hid (show Fr (One zb) w ((w.setCell ⟨zb, k * 3 + 1, none⟩ (.int .i64 (f' : Int))).setCell ⟨zb, k * 3, none⟩ (.slice x.a f' x.c)) from ((Fr.refl (One zb) w).setCell (p := ⟨zb, k * 3 + 1, none⟩) (fun _ => (rfl : zb = zb)) _).setCell (p := ⟨zb, k * 3, none⟩) (fun _ => (rfl : zb = zb)) _)
    have H0 := Lib.hid h0
    clear h0
    rcases hcase with ⟨h1, rfl⟩ | ⟨K, rfl, h1, hf2⟩ | ⟨K, rfl, h1, hf2⟩
    · go_enter Try.func38, Try.ntmps38
      go_wp2_with fail
      go_region
      go_wp2_with fail
      go_region
      go_wp2_with fail
      go_end0
      exact ⟨rfl, HEND.out _ FB.out.drew.drew _ ((hat.out.set_ (k * 3 + 1) (.int .i64 (f' : Int))).set_ (k * 3) (.slice x.a f' x.c)) (fun _ => rfl) (fun h => absurd h H0.out)⟩
    · have w2 : IntKind.i64.wrap ((f : Int) + (K : Int)) = (f' : Int) := by
        simp [IntKind.wrap, IntKind.signed, IntKind.bits]
        omega
      clear hf2
      go_enter Try.func38, Try.ntmps38
      go_wp2_with fail
      go_region
      go_wp2_with fail
      go_region
      go_wp2_with fail
      go_end0
      exact ⟨rfl, HEND.out _ FB.out.drew.drew _ ((hat.out.set_ (k * 3 + 1) (.int .i64 (f' : Int))).set_ (k * 3) (.slice x.a f' x.c)) (fun _ => rfl) (fun h => absurd h H0.out)⟩
    · have w2 : IntKind.i64.wrap ((f : Int) + (u : Int)) = (f' : Int) := by
        simp [IntKind.wrap, IntKind.signed, IntKind.bits]
        omega
      clear hf2
      go_enter Try.func38, Try.ntmps38
      go_wp2_with fail
      go_region
      go_wp2_with fail
      go_region
      go_wp2_with fail
      go_end0
      exact ⟨rfl, HEND.out _ FB.out.drew.drew _ ((hat.out.set_ (k * 3 + 1) (.int .i64 (f' : Int))).set_ (k * 3) (.slice x.a f' x.c)) (fun _ => rfl) (fun h => absurd h H0.out)⟩
end Go.Proofs.Ytmkadpjacidlkaa
