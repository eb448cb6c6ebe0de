/-
  Texts of layer 14 and of what it stands on, one behind the other.
-/
import Derived.Test.YtihahckjcedceaaDoorMg29
import Derived.Test.YtihahckjcedceaaDoorMg28
import Derived.Test.YtihahckjcedceaaDoorMg22

/- Layer 14: a value's record: mathematics; the document's Record, the program's recordOf, textSize, Size. -/
namespace Go.Proofs.YtihahckjcedceaaDoor
set_option linter.unusedVariables false
set_option linter.unusedSimpArgs false
open Go.RowKit

/-- A key. -/
structure Ky where
  u : ByteArray
  q : Int
  k : Int
def kyV (x : Ky) : Value := .agg #[.string x.u, .int .i64 x.q, .int .i64 x.k]
def Ky.rt (x : Ky) : Prop := Rt x.u.size x.q x.k
instance (x : Ky) : Decidable x.rt := by unfold Ky.rt; infer_instance
def Ky.b (x : Ky) : List UInt8 := encK (bs x.u) x.q x.k
def textB (l : List UInt8) : List UInt8 := enc l.length ++ l
/-- The record of a value. -/
def recB (x : Ky) (v : ByteArray) : List UInt8 := textB x.b ++ textB (bs v)
theorem bs_inj {s t : ByteArray} (h : bs s = bs t) : s = t := by rw [← strOf_bs s, ← strOf_bs t, h]
theorem textB_length (l : List UInt8) : (textB l).length = (enc l.length).length + l.length := by unfold textB; rw [List.length_append]
theorem kyb_len {x : Ky} (h : x.rt) : x.b.length ≤ 137 := by
  obtain ⟨h1, h2, _⟩ := h
  have := escs_length (bs x.u)
  have := bs_length x.u
  unfold Ky.b encK
  simp only [List.length_append, tailB_length, List.length_cons, List.length_nil]
  omega
theorem recB_len {x : Ky} {v : ByteArray} (h : x.rt) (hv : v.size ≤ 1000000) : (recB x v).length ≤ 155 + v.size := by
  have h1 := kyb_len h
  have h2 := enc_len9 (show x.b.length < 9223372036854775808 by omega)
  have h3 := enc_len9 (show (bs v).length < 9223372036854775808 by rw [bs_length]; omega)
  unfold recB
  rw [List.length_append, textB_length, textB_length]
  rw [bs_length] at h3 ⊢
  omega
/-- What readRecord tells: the key and the value of a record, if it is a value's. -/
def rrR (l : List UInt8) : Option (Ky × ByteArray) :=
  if doneI (textS (textS (l, false)).2).2 = 0 then (match parseS (textS (l, false)).1 with | some (u, q, k) => some (⟨strOf u, q, k⟩, strOf (textS (textS (l, false)).2).1) | none => none) else none
theorem rrR_enc {x : Ky} (h : x.rt) (v : ByteArray) (hv : v.size < 9223372036854775808) : rrR (recB x v) = some (x, v) := by
  have h1 := kyb_len h
  have e1 : textS (recB x v, false) = (x.b, (textB (bs v), false)) := by
    unfold recB textB
    rw [List.append_assoc]
    exact textS_enc _ _ (by omega)
  have e2 : textS (textB (bs v), false) = (bs v, ([], false)) := by
    have := textS_enc (bs v) [] (by rw [bs_length]; omega)
    rwa [List.append_nil] at this
  have e3 : parseS x.b = some (bs x.u, x.q, x.k) := parse_enc _ _ _ (by rw [bs_length]; exact h)
  unfold rrR
  simp only [e1, e2, e3]
  rw [if_pos (by decide), strOf_bs, strOf_bs]
theorem rrR_some {l : List UInt8} {x : Ky} {v : ByteArray} (h : rrR l = some (x, v)) : x.rt ∧ recB x v = l := by
  unfold rrR at h
  split at h
  · rename_i h1
    have hd := doneI_zero h1
    rcases e1 : textS (l, false) with ⟨a, l1, b1⟩
    rw [e1] at hd h
    rcases e2 : textS (l1, b1) with ⟨b, l2, b2⟩
    simp only at hd h
    rw [e2] at hd h
    simp only [Prod.mk.injEq] at hd
    obtain ⟨rfl, rfl⟩ := hd
    have hb1 : b1 = false := textS_keeps l1 b1 (by rw [e2])
    subst hb1
    have f1 := textS_back e1
    have f2 := textS_back e2
    cases hp : parseS a with
    | none => rw [hp] at h; cases h
    | some p =>
      obtain ⟨u, q, k⟩ := p
      rw [hp] at h
      simp only [Option.some.injEq, Prod.mk.injEq] at h
      obtain ⟨rfl, rfl⟩ := h
      obtain ⟨g1, g2⟩ := parse_some _ _ _ _ hp
      refine ⟨by unfold Ky.rt; rw [size_strOf]; exact g1, ?_⟩
      unfold recB Ky.b textB
      rw [bs_strOf, bs_strOf, g2, f1, f2]
      simp
  · cases h
theorem recB_inj {x y : Ky} {v u : ByteArray} (hx : x.rt) (hy : y.rt) (hv : v.size < 9223372036854775808) (hu : u.size < 9223372036854775808) (h : recB x v = recB y u) : x = y ∧ v = u := by
  have h1 := rrR_enc hx v hv
  rw [h, rrR_enc hy u hu] at h1
  simp only [Option.some.injEq, Prod.mk.injEq] at h1
  exact ⟨h1.1.symm, h1.2.symm⟩
/-- A text of at least 51 bytes that has at most 50 behind it: no record of a value. -/
theorem rrR_junk (l : List UInt8) (h : l.length ≤ 50) : rrR (120 :: l) = none := by
  have hd : dec 9 0 ((120 : UInt8) :: l) = some (120, 1) := by
    rw [dec_cons]
    rfl
  have e1 : textS ((120 : UInt8) :: l, false) = ([], ((120 : UInt8) :: l, true)) := by
    unfold textS
    simp only [hd]
    unfold takeS
    rw [if_pos]
    right
    right
    simp only [List.length_cons]
    omega
  unfold rrR
  rw [e1]
  simp only [textS_bad]
  rw [if_neg]
  unfold doneI
  rw [if_pos (.inl rfl)]
  decide

theorem refBytesK_c (x : Ky) (w : World) (h : x.rt) : Calls Tryd.prog 46 #[kyV x] w (NewRow x.b w) := refBytes_c x.u x.q x.k w h
set_option maxRecDepth 20000 in
set_option maxHeartbeats 1600000 in
theorem refRecord_c (x : Ky) (v : ByteArray) (w : World) (h : x.rt) (hv : v.size ≤ 100000) :
    Calls Tryd.prog 22 #[kyV x, .string v] w (NewRow (recB x v) w) := by
  have hbl := kyb_len h
  have HB := Lib.hid (show textB x.b ++ textB (bs v) = recB x v from rfl)
  have CB := Lib.hid (fun w => refBytesK_c x w h)
  obtain ⟨K, hK⟩ : ∃ l, x.b = l := ⟨_, rfl⟩
  rw [hK] at CB HB hbl
  obtain ⟨kn, hkn⟩ : ∃ n, K.length = n := ⟨_, rfl⟩
  have HKN := Lib.hid hkn
  rw [hkn] at hbl
  have e9 := enc_len9 (show kn < 9223372036854775808 by omega)
  have e8 := enc_len9 (show v.size < 9223372036854775808 by omega)
  have HTL : Hid ((enc kn ++ K).length ≤ 200) := Lib.hid (by rw [List.length_append, hkn]; omega)
  have HTV : Hid ((enc v.size ++ bs v).length ≤ 200000) := Lib.hid (by rw [List.length_append, bs_length]; omega)
  have HE : Hid ((enc kn ++ K) ++ (enc v.size ++ bs v) = recB x v) := Lib.hid (by rw [← HB.out]; unfold textB; rw [hkn, bs_length])
  have hf0 := (Fr.refl No w).alloc (.cells #[.string x.u, .int .i64 x.q, .int .i64 x.k] 47)
  generalize recB x v = R at *
  unfold kyV at CB ⊢
  clear hK hkn e9 e8 HB h
  go_enter Tryd.func22, Tryd.ntmps22
  go_wp2_with fail
  generalize w.alloc (.cells #[.string x.u, .int .i64 x.q, .int .i64 x.k] 47) = W at *
  refine (CB.out W).mono ?_
  rintro e w1 ⟨v1, rfl, hrow1, hfr1⟩
  obtain ⟨a1, c1, rfl, _, _, hin1⟩ := hrow1.form
  have CT := Lib.hid (refText_c a1 kn c1 K w1 HKN.out (by omega) hin1.rd)
  have HF1 := Lib.hid (hf0.trans hfr1)
  rw [HKN.out]
  clear hrow1 hfr1 hin1 hf0 CB
  go_wp2_with fail
  refine (show Calls _ _ _ _ _ from CT.out).mono ?_
  rintro e w2 ⟨v2, rfl, hrow2, hfr2⟩
  have HF2 := Lib.hid (HF1.out.trans hfr2)
  have HR2 := Lib.hid ((hrow2.sub (T := Gr No w w2) fun k hk h => h.elim (fun h => h.elim) fun h => .inr ⟨Nat.le_trans HF1.out.size h.1, h.2⟩))
  obtain ⟨q1, q2, q3, rfl⟩ := hrow2.shape
  obtain ⟨ca, cc, w3, hcv, hc1, hc2, hcin, hcf⟩ := conv_strR w2 v (by simp [maxLen]; omega)
  have CT2 := Lib.hid (refText_c ca v.size cc (bs v) w3 (bs_length v) (by omega) hcin.rd)
  have HF3 := Lib.hid hcf
  clear hrow2 hfr2 CT hcin hcf hc1 hc2
  go_wp2_with fail
  refine (show Calls _ _ _ _ _ from CT2.out).mono ?_
  rintro e w4 ⟨v4, rfl, hrow4, hfr4⟩
  obtain ⟨a4, c4, rfl, _, _, hin4⟩ := hrow4.form
  have f24 := HF3.out.trans hfr4
  obtain ⟨v5, w5, hrun5, hrow5, hfr5⟩ := (HR2.out.grow f24).more (HF2.out.trans f24) a4 (enc v.size ++ bs v).length c4 (enc v.size ++ bs v) rfl hin4.rd (by have := HTL.out; have := HTV.out; omega)
  rw [HE.out] at hrow5
  have HRUN5 := Lib.hid hrun5
  have HX : Hid (NewRow R w (.returned v5) w5) := Lib.hid ⟨v5, rfl, hrow5, hfr5⟩
  clear hrun5 hrow5 hfr5 hrow4 hfr4 hin4 f24 HR2 HF2 HF3 CT2 hcv
  generalize (enc v.size ++ bs v).length = m4 at HRUN5 ⊢
  go_wp2_with (at_builtin; refine wpList_append_run rfl _ _ 51 rfl rfl rfl HRUN5.out ?_)
  go_ret
  exact HX.out
/-- Bytes of the call's own come back. -/
def BytesOwn (p : List UInt8) (w : World) (e : Ending) (w' : World) : Prop := ∃ a cap, e = .returned (.slice a p.length cap) ∧ p.length ≤ cap ∧ cap ≤ maxLen ∧ Row w' (Gr No w w') (.slice a p.length cap) p ∧ Fr No w w'
set_option maxRecDepth 20000 in
set_option maxHeartbeats 1600000 in
theorem recordOf_c (a : Option Addr) (len cap : Nat) (l : List UInt8) (v : ByteArray) (w : World) (hl : l.length = len) (hm : len ≤ 1000000) (hv : v.size ≤ 1000000) (hr : Rd w a l) :
    Calls Tryd.prog 43 #[.slice a len cap, .string v] w (BytesOwn (textB l ++ textB (bs v)) w) := by
  have e9 := enc_len9 (show len < 9223372036854775808 by omega)
  have e8 := enc_len9 (show v.size < 9223372036854775808 by omega)
  have HB : Hid (([] ++ (enc len ++ l)) ++ (enc v.size ++ bs v) = textB l ++ textB (bs v)) := Lib.hid (by unfold textB; rw [hl, bs_length]; simp)
  have HL : Hid (([] ++ (enc len ++ l)).length ≤ 1000009) := Lib.hid (by simp only [List.nil_append, List.length_append]; omega)
  have HLB : Hid ((textB l ++ textB (bs v)).length ≤ 3000000) := Lib.hid (by rw [List.length_append, textB_length, textB_length, bs_length, hl]; omega)
  have HW := Lib.hid (WrO.new w)
  have f0 := (Fr.refl No w).alloc (.cells #[.slice none 0 0, .bool false] 75)
  have CT := Lib.hid (HW.out.text a len cap l hl (by simp; omega) (((In.of_rd hr).keep f0 (fun _ _ h => h)).sub fun k _ hk => .inl hk))
  have HF0 := Lib.hid f0
  generalize textB l ++ textB (bs v) = P at *
  obtain ⟨pn, hpn⟩ : ∃ n, P.length = n := ⟨_, rfl⟩
  clear hr e9 e8 f0
  go_enter Tryd.func43, Tryd.ntmps43
  go_wp2_with fail
  refine (show Calls _ _ _ _ _ from CT.out).mono ?_
  rintro e w1 ⟨rfl, ho⟩
  obtain ⟨ca, cc, w3, hcv, hc1, hc2, hcin, hcf⟩ := conv_strR w1 v (by simp [maxLen]; omega)
  have CT2 := Lib.hid ((ho.no hcf).text ca v.size cc (bs v) (bs_length v) (by have := HL.out; omega) (hcin.sub fun k _ hk => hk.elim (fun h => h.elim) fun hk => .inr hk.1))
  rw [HB.out] at CT2
  clear ho hcin hcf CT hc1 hc2
  go_wp2_with fail
  refine (show Calls _ _ _ _ _ from CT2.out).mono ?_
  rintro e w4 ⟨rfl, ho⟩
  have CB := Lib.hid (ho.bytes (by have := HLB.out; omega))
  have HFO := Lib.hid ho.fr
  clear ho CT2 hcv
  go_wp2_with fail
  refine (show Calls _ _ _ _ _ from CB.out).mono ?_
  rintro e w5 ⟨ra, rc, rfl, r1, r2, rrow, rf⟩
  have HX : Hid (BytesOwn P w (.returned (.slice ra P.length rc)) w5) := Lib.hid ⟨ra, rc, rfl, r1, r2, rrow.sub fun k hk h => h.elim (fun h => h.elim) fun h => .inr ⟨Nat.le_trans HFO.out.size h.1, h.2⟩, HFO.out.trans rf⟩
  clear r1 r2 rrow rf CB
  rw [hpn] at HX ⊢
  go_wp2_with fail
  go_ret
  exact HX.out
set_option maxHeartbeats 400000 in
theorem textSize_c (n : Nat) (w : World) (h : n ≤ 1000000) : Calls Tryd.prog 44 #[.int .i64 (n : Int)] w fun e w' => e = .returned (.int .i64 (((enc n).length + n : Nat) : Int)) ∧ w = w' := by
  have HC := Lib.hid (size_c n w (by omega))
  have h9 := enc_len9 (show n < 9223372036854775808 by omega)
  generalize (enc n).length = E at *
  go_enter Tryd.func44, Tryd.ntmps44
  go_wp2_with fail
  refine (show Calls _ _ _ _ _ from HC.out).mono ?_
  rintro e w' ⟨rfl, rfl⟩
  go_wp2_with fail
  go_ret
  exact ⟨by simp, rfl⟩
theorem vsize_no (x : Ky) (v : ByteArray) (w : World) (h : ¬ x.rt) : Calls Tryd.prog 21 #[kyV x, .string v] w (PlainRet (.int .i64 0) w) := by
  have CB := Lib.hid (fun w => bytes_no x.u x.q x.k w h)
  have hf0 := (Fr.refl No w).alloc (.cells #[.string x.u, .int .i64 x.q, .int .i64 x.k] 43)
  unfold kyV
  go_enter Tryd.func21, Tryd.ntmps21
  go_wp2_with fail
  generalize w.alloc (.cells #[.string x.u, .int .i64 x.q, .int .i64 x.k] 43) = W at *
  refine (CB.out W).mono ?_
  rintro e w1 ⟨rfl, hf1⟩
  have HF1 := Lib.hid (hf0.trans hf1)
  clear hf0 hf1 CB
  go_wp2_with fail
  go_ret
  exact ⟨rfl, HF1.out⟩
set_option maxHeartbeats 800000 in
theorem vsize_yes (x : Ky) (v : ByteArray) (w : World) (h : x.rt) (hv : v.size ≤ 1000000) : Calls Tryd.prog 21 #[kyV x, .string v] w (PlainRet (.int .i64 (sizeL (recB x v).length : Int)) w) := by
  have CB := Lib.hid (fun w => bytes_yes x.u x.q x.k w h)
  have hf0 := (Fr.refl No w).alloc (.cells #[.string x.u, .int .i64 x.q, .int .i64 x.k] 43)
  have hbl := kyb_len h
  have HN : Hid ((recB x v).length = ((enc x.b.length).length + x.b.length) + ((enc v.size).length + v.size)) := Lib.hid (by unfold recB; rw [List.length_append, textB_length, textB_length, bs_length])
  rw [HN.out]
  have CB : Hid (∀ w, Calls Tryd.prog 42 #[.agg #[.string x.u, .int .i64 x.q, .int .i64 x.k]] w (BytesRetK x.b w)) := CB
  generalize x.b = K at *
  obtain ⟨kn, hkn⟩ : ∃ n, K.length = n := ⟨_, rfl⟩
  have HKN := Lib.hid hkn
  rw [hkn] at hbl ⊢
  have C1 := Lib.hid (fun w => textSize_c kn w (by omega))
  have C2 := Lib.hid (fun w => textSize_c v.size w hv)
  have e9 := enc_len9 (show kn < 9223372036854775808 by omega)
  have e8 := enc_len9 (show v.size < 9223372036854775808 by omega)
  have C3 := Lib.hid (fun w => fsize_c (((enc kn).length + kn) + ((enc v.size).length + v.size)) w (by omega))
  have hA : (enc kn).length + kn ≤ 200 := by omega
  have hB : (enc v.size).length + v.size ≤ 2000000 := by omega
  generalize (enc kn).length + kn = A at *
  generalize (enc v.size).length + v.size = B at *
  rw [show ((A + B : Nat) : Int) = (A : Int) + (B : Int) by omega] at C3
  generalize sizeL (A + B) = S at *
  unfold kyV
  clear h hkn HN
  go_enter Tryd.func21, Tryd.ntmps21
  go_wp2_with fail
  generalize w.alloc (.cells #[.string x.u, .int .i64 x.q, .int .i64 x.k] 43) = W at *
  refine (CB.out W).mono ?_
  rintro e w1 ⟨a1, c1, rfl, hrow, hf1⟩
  have HF1 := Lib.hid (hf0.trans hf1)
  rw [HKN.out]
  clear hf0 hf1 CB hrow
  go_wp2_with fail
  refine (C1.out w1).mono ?_
  rintro e w' ⟨rfl, rfl⟩
  go_wp2_with fail
  refine (C2.out w1).mono ?_
  rintro e w' ⟨rfl, rfl⟩
  go_wp2_with fail
  refine (C3.out w1).mono ?_
  rintro e w' ⟨rfl, rfl⟩
  go_wp2_with fail
  go_ret
  exact ⟨rfl, HF1.out⟩
end Go.Proofs.YtihahckjcedceaaDoor
