/-
  Layer 10: the document's Bytes.
-/
import Derived.Test.YtidfjcaajejfoaaBaC
import Derived.Test.YtidfjcaajejfoaaWireCn
import Derived.Laws.IdiomStrings
namespace Go.Proofs.Ytidfjcaajejfoaa
set_option linter.unusedVariables false
open Go.RowKit

/-- A text's bytes. -/
def bs (s : ByteArray) : List UInt8 := s.data.toList
theorem bs_length (s : ByteArray) : (bs s).length = s.size := by unfold bs; rw [Array.length_toList]; rfl
def textB (s : ByteArray) : List UInt8 := enc s.size ++ bs s
def kindB (k : Int) : UInt8 := UInt8.ofNat k.toNat
def opB (x : Op10) : List UInt8 := kindB x.k :: (textB x.key ++ if x.k = 1 then textB x.val else [])
def opsB (l : List Op10) : List UInt8 := l.flatMap opB
def batchB (q : Nat) (l : List Op10) : List UInt8 := (enc q ++ enc l.length) ++ opsB l
theorem opsB_append (l m : List Op10) : opsB (l ++ m) = opsB l ++ opsB m := by simp [opsB]
theorem opsB_one (x : Op10) : opsB [x] = opB x := by simp [opsB]
theorem textB_len (s : ByteArray) (h : s.size ≤ 5000) : (textB s).length ≤ 5009 := by
  unfold textB
  rw [List.length_append, bs_length]
  have := enc_len9 (show s.size < 9223372036854775808 by omega)
  omega
theorem opB_len (x : Op10) (h1 : x.key.size ≤ 5000) (h2 : x.val.size ≤ 5000) : (opB x).length ≤ 10019 := by
  have a := textB_len x.key h1
  have b := textB_len x.val h2
  unfold opB
  split <;> simp <;> omega
theorem opsB_len (l : List Op10) (h : ∀ x ∈ l, x.key.size ≤ 5000 ∧ x.val.size ≤ 5000) : (opsB l).length ≤ l.length * 10019 := by
  induction l with
  | nil => simp [opsB]
  | cons x l ih =>
    have h1 := h x (List.mem_cons_self ..)
    have h2 := opB_len x h1.1 h1.2
    have h3 := ih fun y hy => h y (List.mem_cons_of_mem _ hy)
    show (opB x ++ opsB l).length ≤ _
    rw [List.length_append, List.length_cons]
    omega
theorem rightO_parts {x : Op10} (h : rightO x = true) : 1 ≤ x.key.size ∧ x.key.size ≤ 64 ∧ x.val.size ≤ 4096 ∧ (x.k = 1 ∨ x.k = 2 ∧ x.val.size = 0) := by
  unfold rightO at h
  simp at h
  obtain ⟨⟨⟨h1, h2⟩, h3⟩, h4⟩ := h
  exact ⟨h1, h2, h3, h4.imp id fun ⟨a, b⟩ => ⟨a, by rw [b]; rfl⟩⟩

/-- '[]byte(s)'. -/
theorem conv_str (w : World) (s : ByteArray) : ∃ c w', (convert 9 35 (.string s)).run Try.prog w = .ok (.slice (some ⟨w.heap.size, 0, none⟩) s.size c) w' ∧ Rd w' (some ⟨w.heap.size, 0, none⟩) (bs s) ∧ Fr No w w' := by
  refine ⟨_, _, run_bytes_of_string w 9 35 5 s Try.underlying9 Try.underlying35 Try.underlying5, ?_, (Fr.refl _ _).drew.alloc _⟩
  intro hl
  refine ⟨w.heap.size, 0, rfl, fun i hi => ?_⟩
  rw [Nat.zero_add, cell_of_row _ w.heap.size i _ _ _ (heap_alloc_new w.drew _)]
  rw [bs_length] at hi
  unfold bytesRow bs
  have hi' : i < s.data.size := hi
  rw [Array.getElem?_append_left (by rw [Array.size_map]; exact hi'), Array.getElem?_map, Array.getElem?_eq_getElem hi']
  simp [List.getD, Array.getElem?_eq_getElem hi']

theorem Row.grow {w w1 w2 : World} {v : Value} {l : List UInt8} (h : Row w1 (Gr No w w1) v l) (f : Fr No w1 w2) : Row w2 (Gr No w w2) v l :=
  (h.keep f fun _ _ h => h).sub fun x _ hx => by
    rcases hx with hx | hx
    · exact hx.elim
    · exact .inr ⟨hx.1, Nat.lt_of_lt_of_le hx.2 f.size⟩
theorem Row.more {w0 w : World} {v : Value} {l : List UInt8} (h : Row w (Gr No w0 w) v l) (f : Fr No w0 w) (a : Option Addr) (m c : Nat) (news : List UInt8) (hm : news.length = m) (hr : Rd w a news) (hb : l.length + m ≤ 140737488355328) :
    ∃ v' w', (Builtin.append_ #[35, 35] 35 #[v, .slice a m c]).run Try.prog w = .ok v' w' ∧ Row w' (Gr No w0 w') v' (l ++ news) ∧ Fr No w0 w' := by
  obtain ⟨v', w', h1, h2, h3⟩ := h.append a m c news hm hr hb
  exact ⟨v', w', h1, h2.join f.size h3.size, f.then_ h3 fun k hk h => Gr.old hk h⟩
theorem Row.more1 {w0 w : World} {v : Value} {l : List UInt8} (h : Row w (Gr No w0 w) v l) (f : Fr No w0 w) (c : UInt8) (z : Int) (hz : (c.toNat : Int) = z) (hb : l.length < 140737488355328) :
    ∃ v' w', (Builtin.append_ #[35, 35] 35 #[v, .slice (some ⟨w.heap.size, 0, none⟩) 1 1]).run Try.prog (w.alloc (.cells #[.int .u8 z] 5)) = .ok v' w' ∧ Row w' (Gr No w0 w') v' (l ++ [c]) ∧ Fr No w0 w' := by
  subst hz
  obtain ⟨v', w', h1, h2, h3⟩ := h.push (fun k hk => hk.elim (fun h => h.elim) fun h => h.2) c hb
  exact ⟨v', w', h1, h2.join f.size h3.size, f.then_ h3 fun k hk h => Gr.old hk h⟩

set_option maxRecDepth 20000 in
set_option maxHeartbeats 3200000 in
theorem refBytes_c (q : Nat) (a : Option Addr) (cap : Nat) (l : List Op10) (w : World) (S : Nat → Prop) (hq : q ≤ 1099511627776) (hm : l.length ≤ 64) (hi : Ops w S a l) (hr : ∀ x ∈ l, rightO x = true) :
    Calls Try.prog 21 #[.int .i64 (q : Int), .slice a l.length cap] w (NewRow (batchB q l) w) := by
  obtain ⟨len, hlen⟩ : ∃ len, l.length = len := ⟨_, rfl⟩
  have HFIN : Hid (∀ v w', Row w' (Gr No w w') v ((enc q ++ enc len) ++ opsB (l.take len)) → Fr No w w' → NewRow (batchB q l) w (.returned v) w') := Lib.hid fun v w' h1 h2 => by
    rw [List.take_of_length_le (by omega)] at h1
    unfold batchB
    rw [hlen]
    exact ⟨v, rfl, h1, h2⟩
  have HLEN : Hid (∀ k, k < l.length → (((enc q ++ enc len) ++ opsB (l.take k)).length ≤ 1000000)) := Lib.hid fun k hk => by
    have h1 := enc_len9 (show q < 9223372036854775808 by omega)
    have h2 := enc_len9 (show len < 9223372036854775808 by omega)
    have h3 := opsB_len (l.take k) fun x hx => by
      obtain ⟨_, b, c, _⟩ := rightO_parts (hr x (List.mem_of_mem_take hx))
      omega
    have h4 : (l.take k).length ≤ 64 := by rw [List.length_take]; omega
    simp only [List.length_append]
    omega
  rw [hlen] at hm ⊢
  have HL := Lib.hid hlen
  have HI := Lib.hid hi
  have HR := Lib.hid hr
  clear hi hlen hr
  go_enter Try.func21, Try.ntmps21
  go_wp2_with fail
  refine (refNumber_c q w (by omega)).mono ?_
  rintro e w1 ⟨v1, rfl, hrow1, hfr1⟩
  have HR1 := Lib.hid hrow1
  have HF1 := Lib.hid hfr1
  clear hrow1 hfr1
  go_wp2_with fail
  refine (refNumber_c len w1 (by omega)).mono ?_
  rintro e w2 ⟨v2, rfl, hrow2, hfr2⟩
  obtain ⟨a2, c2, rfl, _, _, hin2⟩ := hrow2.form
  obtain ⟨v3, w3, hrun3, hrow3, hfr3⟩ := (HR1.out.grow hfr2).more (HF1.out.trans hfr2) a2 (enc len).length c2 (enc len) rfl hin2.rd (by
    have h1 := enc_len9 (show q < 9223372036854775808 by omega)
    have h2 := enc_len9 (show len < 9223372036854775808 by omega)
    omega)
  have HRUN3 := Lib.hid hrun3
  have HR3 := Lib.hid hrow3
  have HF3 := Lib.hid hfr3
  clear hrun3 hrow3 hfr3 hrow2 hfr2 hin2 HR1 HF1
  generalize (enc len).length = m2 at HRUN3 ⊢
  go_wp2_with (at_builtin; refine wpList_append_run rfl _ _ 35 rfl rfl rfl HRUN3.out ?_)
  go_loopw [5, 6] (fun vo i wr => ∃ k : Nat, i = .int .i64 k ∧ k ≤ len ∧ Row wr (Gr No w wr) vo ((enc q ++ enc len) ++ opsB (l.take k)) ∧ Fr No w wr) (fun _ i _ => len - (intOf i).toNat)
  case atStart => exact ⟨0, rfl, Nat.zero_le _, by simpa [opsB] using HR3.out, HF3.out⟩
  case round =>
    clear HRUN3 HR3 HF3
    obtain ⟨k, rfl, hk, hrow, hfr⟩ := hrel
    have HRo := Lib.hid hrow
    have HF := Lib.hid hfr
    obtain ⟨va, vn, vc, hvo⟩ := hrow.shape
    subst hvo
    clear hrow hfr
    by_cases hlt : k < len
    · have hkl : k < l.length := by rw [HL.out]; exact hlt
      obtain ⟨b, o, _, rfl, hx⟩ := HI.out (by omega)
      have hx := hx k hkl
      have HT := Lib.hid (take_op l k hkl)
      have HLK := Lib.hid (HLEN.out k hkl)
      have HRT := Lib.hid (HR.out _ (getD_mem l k hkl))
      generalize l.getD k op0 = x at hx HT HRT
      have HOP : Hid (opsB (l.take (k + 1)) = opsB (l.take k) ++ opB x) := Lib.hid (by rw [HT.out, opsB_append, opsB_one])
      generalize opsB (l.take k) = p at HRo HLK HOP
      have HX := Lib.hid hx
      obtain ⟨r1, r2, r3, r4⟩ := rightO_parts HRT.out
      clear hx
      rcases r4 with hk1 | ⟨hk2, hv0⟩
      · have hkk : x.k = 1 := hk1
        have c0 := (HX.out.keep HF.out (fun h => h)).c0
        rw [hkk] at c0
        obtain ⟨v4, w4, hrun4, hrow4, hfr4⟩ := HRo.out.more1 HF.out 1 1 rfl (by have := HLK.out; omega)
        have HRUN4 := Lib.hid hrun4
        have HR4 := Lib.hid hrow4
        have HF4 := Lib.hid hfr4
        clear hrun4 hrow4 hfr4
        obtain ⟨v4a, v4n, v4c, rfl⟩ := HR4.out.shape
        have e5 := HX.out.keep HF4.out (fun h => h)
        obtain ⟨g50, g51, g52⟩ := e5
        obtain ⟨cc5, w5, hcv5, hrd5, hf5⟩ := conv_str w4 x.key
        have HRD5 := Lib.hid hrd5
        have HFD5 := Lib.hid hf5
        clear hrd5 hf5
        go_wp2_with (at_builtin; refine wpList_append_run rfl _ _ 35 rfl rfl rfl HRUN4.out ?_)
        refine (refText_c (some ⟨w4.heap.size, 0, none⟩) x.key.size cc5 (bs x.key) w5 (bs_length _) (by omega) HRD5.out).mono ?_
        rintro e wt5 ⟨vt5, rfl, hrt5, hft5⟩
        obtain ⟨at5, ct5, rfl, _, _, hin5⟩ := hrt5.form
        obtain ⟨vu5, wu5, hru5, hrow5, hfu5⟩ := (HR4.out.grow (HFD5.out.trans hft5)).more (HF4.out.trans (HFD5.out.trans hft5)) at5 (enc x.key.size ++ bs x.key).length ct5 (enc x.key.size ++ bs x.key) rfl hin5.rd (by
          have h1 := enc_len9 (show x.key.size < 9223372036854775808 by omega)
          have h2 := HLK.out
          simp only [List.length_append, List.length_cons, List.length_nil, bs_length] at h2 ⊢
          omega)
        have HRU5 := Lib.hid hru5
        have HRW5 := Lib.hid hrow5
        have HFW5 := Lib.hid hfu5
        clear hru5 hrow5 hfu5 hrt5 hft5 hin5 HRD5 HFD5 hcv5 g50 g51 g52
        generalize (enc x.key.size ++ bs x.key).length = mt5 at HRU5 ⊢
        have e5 := HX.out.keep HFW5.out (fun h => h)
        obtain ⟨g50, g51, g52⟩ := e5
        rw [hkk] at g50
        obtain ⟨cc6, w6, hcv6, hrd6, hf6⟩ := conv_str wu5 x.val
        have HRD6 := Lib.hid hrd6
        have HFD6 := Lib.hid hf6
        clear hrd6 hf6
        go_wp2_with (at_builtin; refine wpList_append_run rfl _ _ 35 rfl rfl rfl HRU5.out ?_)
        refine (refText_c (some ⟨wu5.heap.size, 0, none⟩) x.val.size cc6 (bs x.val) w6 (bs_length _) (by omega) HRD6.out).mono ?_
        rintro e wt6 ⟨vt6, rfl, hrt6, hft6⟩
        obtain ⟨at6, ct6, rfl, _, _, hin6⟩ := hrt6.form
        obtain ⟨vu6, wu6, hru6, hrow6, hfu6⟩ := (HRW5.out.grow (HFD6.out.trans hft6)).more (HFW5.out.trans (HFD6.out.trans hft6)) at6 (enc x.val.size ++ bs x.val).length ct6 (enc x.val.size ++ bs x.val) rfl hin6.rd (by
          have h1 := enc_len9 (show x.val.size < 9223372036854775808 by omega)
          have h3 := enc_len9 (show x.key.size < 9223372036854775808 by omega)
          have h2 := HLK.out
          simp only [List.length_append, List.length_cons, List.length_nil, bs_length] at h2 ⊢
          omega)
        have HRU6 := Lib.hid hru6
        have HRW6 := Lib.hid hrow6
        have HFW6 := Lib.hid hfu6
        clear hru6 hrow6 hfu6 hrt6 hft6 hin6 HRD6 HFD6 hcv6
        generalize (enc x.val.size ++ bs x.val).length = mt6 at HRU6 ⊢
        have e6 := HX.out.keep HFW6.out (fun h => h)
        obtain ⟨g60, g61, g62⟩ := e6
        rw [hkk] at g60
        go_wp2_with (at_builtin; refine wpList_append_run rfl _ _ 35 rfl rfl rfl HRU6.out ?_)
        go_roundw
        case rel =>
          refine ⟨k + 1, by simp, by omega, ?_, HFW6.out⟩
          have h := HRW6.out
          rw [HOP.out]
          unfold opB textB kindB
          rw [hkk]
          simpa [List.append_assoc] using h
        case measure => simp [intOf]; omega
      · have hkk : x.k = 2 := hk2
        have c0 := (HX.out.keep HF.out (fun h => h)).c0
        rw [hkk] at c0
        obtain ⟨v4, w4, hrun4, hrow4, hfr4⟩ := HRo.out.more1 HF.out 2 2 rfl (by have := HLK.out; omega)
        have HRUN4 := Lib.hid hrun4
        have HR4 := Lib.hid hrow4
        have HF4 := Lib.hid hfr4
        clear hrun4 hrow4 hfr4
        obtain ⟨v4a, v4n, v4c, rfl⟩ := HR4.out.shape
        have e5 := HX.out.keep HF4.out (fun h => h)
        obtain ⟨g50, g51, g52⟩ := e5
        obtain ⟨cc5, w5, hcv5, hrd5, hf5⟩ := conv_str w4 x.key
        have HRD5 := Lib.hid hrd5
        have HFD5 := Lib.hid hf5
        clear hrd5 hf5
        go_wp2_with (at_builtin; refine wpList_append_run rfl _ _ 35 rfl rfl rfl HRUN4.out ?_)
        refine (refText_c (some ⟨w4.heap.size, 0, none⟩) x.key.size cc5 (bs x.key) w5 (bs_length _) (by omega) HRD5.out).mono ?_
        rintro e wt5 ⟨vt5, rfl, hrt5, hft5⟩
        obtain ⟨at5, ct5, rfl, _, _, hin5⟩ := hrt5.form
        obtain ⟨vu5, wu5, hru5, hrow5, hfu5⟩ := (HR4.out.grow (HFD5.out.trans hft5)).more (HF4.out.trans (HFD5.out.trans hft5)) at5 (enc x.key.size ++ bs x.key).length ct5 (enc x.key.size ++ bs x.key) rfl hin5.rd (by
          have h1 := enc_len9 (show x.key.size < 9223372036854775808 by omega)
          have h2 := HLK.out
          simp only [List.length_append, List.length_cons, List.length_nil, bs_length] at h2 ⊢
          omega)
        have HRU5 := Lib.hid hru5
        have HRW5 := Lib.hid hrow5
        have HFW5 := Lib.hid hfu5
        clear hru5 hrow5 hfu5 hrt5 hft5 hin5 HRD5 HFD5 hcv5 g50 g51 g52
        generalize (enc x.key.size ++ bs x.key).length = mt5 at HRU5 ⊢
        have e5 := HX.out.keep HFW5.out (fun h => h)
        obtain ⟨g50, g51, g52⟩ := e5
        rw [hkk] at g50
        go_wp2_with (at_builtin; refine wpList_append_run rfl _ _ 35 rfl rfl rfl HRU5.out ?_)
        go_roundw
        case rel =>
          refine ⟨k + 1, by simp, by omega, ?_, HFW5.out⟩
          have h := HRW5.out
          rw [HOP.out]
          unfold opB textB kindB
          rw [hkk]
          simpa [List.append_assoc] using h
        case measure => simp [intOf]; omega
    · have hk' : k = len := by omega
      have HE : Hid (NewRow (batchB q l) w (.returned (.slice va vn vc)) wr) := Lib.hid (by
        refine HFIN.out _ _ ?_ HF.out
        have e : l.take len = l.take k := by rw [hk']
        rw [e]
        exact HRo.out)
      clear hk'
      go_wp2_with fail
      go_ret
      exact HE.out
end Go.Proofs.Ytidfjcaajejfoaa
