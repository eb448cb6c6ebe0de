/-
  Texts of layer 13 and of what it stands on, one behind the other.
-/
import Derived.Test.YtlobnbbndkhcbaaGreatDoorMg20

/- Layer 12, the program's own: pack. -/
namespace Go.Proofs.YtlobnbbndkhcbaaGreatDoor
set_option linter.unusedVariables false
open Go.RowKit Go.Shelf
attribute [local go_sem] Oper.semAt_some

def pk3 (w : World) (e : Nat) : World := ((w.alloc (.cells #[.int .i64 (e : Int)] 3)).alloc (.cells #[.pointer none] 165)).alloc (.cells #[.int .i64 0] 28)
def pk7 (w : World) (e : Nat) : World := ((((pk3 w e).alloc (.cells #[.string ⟨#[]⟩, .slice none 0 0, .int .i64 0, .int .i64 (e : Int)] 183)).alloc (.cells #[.pointer (some ⟨w.heap.size + 1 + 1 + 1, 0, none⟩)] 165)).alloc (.cells #[.slice none 0 0] 27)).alloc (.cells #[.string ⟨#[]⟩] 9)
theorem pk3_ok (w : World) (e : Nat) : Fr No w (pk3 w e) ∧ (pk3 w e).heap.size = w.heap.size + 1 + 1 + 1 ∧ At (pk3 w e) w.heap.size 3 #[.int .i64 (e : Int)] ∧ At (pk3 w e) (w.heap.size + 1) 165 #[.pointer none] ∧ At (pk3 w e) (w.heap.size + 1 + 1) 28 #[.int .i64 0] := by
  obtain ⟨wa, ha⟩ : ∃ wa, w.alloc (.cells #[.int .i64 (e : Int)] 3) = wa := ⟨_, rfl⟩
  obtain ⟨wb, hb⟩ : ∃ wb, wa.alloc (.cells #[.pointer none] 165) = wb := ⟨_, rfl⟩
  obtain ⟨wc, hc⟩ : ∃ wc, wb.alloc (.cells #[.int .i64 0] 28) = wc := ⟨_, rfl⟩
  have sa : wa.heap.size = w.heap.size + 1 := by rw [← ha]; simp
  have sb : wb.heap.size = w.heap.size + 1 + 1 := by rw [← hb, World.size_alloc, sa]
  have sc : wc.heap.size = w.heap.size + 1 + 1 + 1 := by rw [← hc, World.size_alloc, sb]
  have fa : Fr No w wa := by rw [← ha]; exact (Fr.refl _ _).alloc _
  have fb : Fr No wa wb := by rw [← hb]; exact (Fr.refl _ _).alloc _
  have fc : Fr No wb wc := by rw [← hc]; exact (Fr.refl _ _).alloc _
  have k0 : At wa w.heap.size 3 #[.int .i64 (e : Int)] := by rw [← ha]; exact At.new _ _ _
  have k1 : At wb wa.heap.size 165 #[.pointer none] := by rw [← hb]; exact At.new _ _ _
  have k2 : At wc wb.heap.size 28 #[.int .i64 0] := by rw [← hc]; exact At.new _ _ _
  rw [sa] at k1
  rw [sb] at k2
  have e' : pk3 w e = wc := by unfold pk3; rw [ha, hb, hc]
  rw [e']
  exact ⟨(fa.trans fb).trans fc, sc, (k0.keep fb (fun h => h)).keep fc (fun h => h), k1.keep fc (fun h => h), k2⟩
theorem pk7_ok (w : World) (e : Nat) : PkS w e (.slice none 0 0) (.slice none 0 0) 0 emp (pk7 w e) ∧ Fr No w (pk7 w e) ∧ (pk7 w e).heap.size = w.heap.size + 7 := by
  obtain ⟨g1, g2, g3, g4, g5⟩ := pk3_ok w e
  unfold pk7
  generalize pk3 w e = wx at *
  obtain ⟨wa, ha⟩ : ∃ wa, wx.alloc (.cells #[.string ⟨#[]⟩, .slice none 0 0, .int .i64 0, .int .i64 (e : Int)] 183) = wa := ⟨_, rfl⟩
  rw [ha]
  obtain ⟨wb, hb⟩ : ∃ wb, wa.alloc (.cells #[.pointer (some ⟨w.heap.size + 1 + 1 + 1, 0, none⟩)] 165) = wb := ⟨_, rfl⟩
  rw [hb]
  obtain ⟨wc, hc⟩ : ∃ wc, wb.alloc (.cells #[.slice none 0 0] 27) = wc := ⟨_, rfl⟩
  rw [hc]
  obtain ⟨wd, hd⟩ : ∃ wd, wc.alloc (.cells #[.string ⟨#[]⟩] 9) = wd := ⟨_, rfl⟩
  rw [hd]
  have sa : wa.heap.size = w.heap.size + 1 + 1 + 1 + 1 := by rw [← ha, World.size_alloc, g2]
  have sb : wb.heap.size = w.heap.size + 1 + 1 + 1 + 1 + 1 := by rw [← hb, World.size_alloc, sa]
  have sc : wc.heap.size = w.heap.size + 1 + 1 + 1 + 1 + 1 + 1 := by rw [← hc, World.size_alloc, sb]
  have sd : wd.heap.size = w.heap.size + 7 := by rw [← hd, World.size_alloc, sc]
  have fa : Fr No wx wa := by rw [← ha]; exact (Fr.refl _ _).alloc _
  have fb : Fr No wa wb := by rw [← hb]; exact (Fr.refl _ _).alloc _
  have fc : Fr No wb wc := by rw [← hc]; exact (Fr.refl _ _).alloc _
  have fd : Fr No wc wd := by rw [← hd]; exact (Fr.refl _ _).alloc _
  have k0 : At wa wx.heap.size 183 #[.string ⟨#[]⟩, .slice none 0 0, .int .i64 0, .int .i64 (e : Int)] := by rw [← ha]; exact At.new _ _ _
  have k1 : At wb wa.heap.size 165 #[.pointer (some ⟨w.heap.size + 1 + 1 + 1, 0, none⟩)] := by rw [← hb]; exact At.new _ _ _
  have k2 : At wc wb.heap.size 27 #[.slice none 0 0] := by rw [← hc]; exact At.new _ _ _
  have k3 : At wd wc.heap.size 9 #[.string emp] := by rw [← hd]; exact At.new _ _ _
  rw [g2] at k0
  rw [sa] at k1
  rw [sb] at k2
  rw [sc] at k3
  have F := (fa.trans fb).trans (fc.trans fd)
  exact ⟨⟨g3.keep F (fun h => h), g4.keep F (fun h => h), g5.keep F (fun h => h), (k0.keep (fb.trans fc) (fun h => h)).keep fd (fun h => h), (k1.keep fc (fun h => h)).keep fd (fun h => h), k2.keep fd (fun h => h), k3⟩, g1.trans F, sd⟩
theorem pack_results (tmps : Array Value) (w : World) (g g' : Nat) (x y : Value) (hp : tmps.getD 4 undef = .pointer (some ⟨g, 0, none⟩)) (he : tmps.getD 5 undef = .pointer (some ⟨g', 0, none⟩)) (hg : w.cell? ⟨g, 0, none⟩ = some x) (hg' : w.cell? ⟨g', 0, none⟩ = some y) :
    (results Tryz.f126 tmps).run Tryz.prog w = .ok (.tuple #[x, y]) w := by
  have hp' : tmps[4]?.getD undef = .pointer (some ⟨g, 0, none⟩) := by simpa using hp
  have he' : tmps[5]?.getD undef = .pointer (some ⟨g', 0, none⟩) := by simpa using he
  have ha : (loadVar 165 ⟨g, 0, none⟩).run Tryz.prog w = .ok x w := by
    simp [loadVar, isAgg, run_underlying Tryz.underlying165, hg, Result.andThen, go_sem]
  have hb : (loadVar 28 ⟨g', 0, none⟩).run Tryz.prog w = .ok y w := by
    simp [loadVar, isAgg, run_underlying Tryz.underlying28, hg', Result.andThen, go_sem]
  simp [results, Tryz.results126, hp', he', asAddr, ha, hb]
set_option maxRecDepth 100000 in
set_option maxHeartbeats 4000000 in
theorem pack_c (gf : Nat) (lb : Array Value) (L : List Pr) (e : Nat) (w : World) (eg : ∀ args w, (callFunc gf args).run Tryz.prog w = .ok (.enter gf args) w) (he : 1 ≤ e) (he2 : e ≤ 64) (hlow : Low 100000 L) (hlen : L.length ≤ 40000)
    (hseq : ∀ w1, Fr No w w1 → Tells gf lb L (fun k => k < w.heap.size) w1) :
    Calls Tryz.prog 126 #[.func (.func gf) #[] lb, .int .i64 (e : Int)] w (PackRet L e w) := by
  obtain ⟨k1, k2, k3⟩ := pk7_ok w e
  obtain ⟨_, s3, a3, _, _⟩ := pk3_ok w e
  have c3 := a3.cell 0
  obtain ⟨w1, hW⟩ : ∃ W, pk7 w e = W := ⟨_, rfl⟩
  rw [hW] at k1 k2 k3
  unfold pk7 pk3 at hW
  unfold pk3 at c3
  have HW := Lib.hid hW
  have K1 := Lib.hid k1
  have K2 := Lib.hid k2
  have K3 := Lib.hid k3
  have HSQ := Lib.hid (hseq w1 k2)
  clear k1 k2 k3 hW a3 hseq
  refine (callsIn_wide (n := 5)).1 ?_
  refine callsIn_of_wp_marks Tryz.func126 rfl trivial ?_ rfl
  simp only [Tryz.ntmps126, List.size_toArray, List.length_cons, List.length_nil, Nat.reduceAdd, Nat.reduceSub, Array.replicate_succ, Array.replicate_zero, List.push_toArray, List.append_toArray, List.nil_append, List.cons_append]
  refine wpIn_wide.2 ?_
  go_wp2_with fail
  rw [HW.out]
  refine (wpIn_wide (n := 5)).1 ?_
  have hf1 := K2.out
  have hz4 := K3.out
  refine wpIn_rangeFunc_ownH rfl (by omega) (gf := gf) (lb := lb) rfl trivial eg HSQ.out
    (fun h k => h.trans k) (fun W k o o' hk h1 h2 _ => Kq.put W k o' (by omega) h1 h2) (Below.refl _ _) (fun _ => rfl)
    (PkI w w1 e L) (PkX w L) (own_pkI w w1 e L hf1.size) (fun c => own_pkX w w1 L c hf1.size)
    ⟨.slice none 0 0, .slice none 0 0, K1.out, BX.start _ _, (fun j h1 h2 => absurd h2 (by simp [pl])), hf1, Nat.le_refl _⟩
    (fun z a' W => ∃ O, a' = { tmps := #[.func (.func gf) #[] lb, .int .i64 (e : Int), undef, .pointer (some ⟨w.heap.size, 0, none⟩), .pointer (some ⟨w.heap.size + 1, 0, none⟩), .pointer (some ⟨w.heap.size + 1 + 1, 0, none⟩), .pointer (some ⟨w.heap.size + 1 + 1 + 1 + 1, 0, none⟩), .pointer (some ⟨w.heap.size + 1 + 1 + 1 + 1 + 1, 0, none⟩), .pointer (some ⟨w.heap.size + 1 + 1 + 1 + 1 + 1 + 1, 0, none⟩), .pointer (some ⟨O, 0, none⟩), .int .i64 (e : Int), .agg #[.string ⟨#[]⟩, .slice none 0 0, .int .i64 0, .int .i64 (e : Int)], .pointer (some ⟨w.heap.size + 1 + 1 + 1, 0, none⟩), .func (.func gf) #[] lb, prV (L.getD z.val pr0), undef, undef, undef, undef, undef, undef, undef, undef, undef, undef, undef, undef, undef, undef, undef, undef, undef, undef, undef, undef, undef, undef, undef, undef, undef, undef, undef, undef, undef, undef, undef, undef, undef, undef, undef, undef, undef, undef, undef, undef, undef, undef, undef, undef, undef, undef, undef, undef, undef, undef, undef, undef], defers := [] } ∧ At W O 74 #[.string (L.getD z.val pr0).key, .string (L.getD z.val pr0).val] ∧ w1.heap.size ≤ O)
    (fun z a' => fun _ W W' row ⟨O, h1, h2, h3⟩ hg hr => ⟨O, h1, own_at h2 hg hr, h3⟩) ?assign ?body ?done ?stop
  case assign =>
    rintro y pre z W K ⟨rv, bv, h1, h2, h3, h6, h7⟩ hK
    obtain ⟨x, hx⟩ : ∃ x, L.getD z.val pr0 = x := ⟨_, rfl⟩
    rw [hx] at hK ⊢
    obtain ⟨W3, hW3⟩ : ∃ W3, W.alloc (.cells #[.string x.key, .string x.val] 74) = W3 := ⟨_, rfl⟩
    have hf3 : Fr No W W3 := by rw [← hW3]; exact (Fr.refl No W).alloc _
    have hat : At W3 W.heap.size 74 #[.string x.key, .string x.val] := by rw [← hW3]; exact At.new _ _ _
    have HK1 := Lib.hid (fun a' ee => hK a' W3 (by rw [← hW3]; exact (KeepsOthers.alloc _ _).from _) (Kq.of_fr hf3) ⟨rv, bv, h1.keep hf3 (fun _ h => h.elim), h2.keep hf3 (fun _ h => h.elim), h3, h6.trans hf3, Nat.le_trans h7 hf3.size⟩ ⟨W.heap.size, ee, hat, h7⟩)
    have HW3 := Lib.hid hW3
    clear hK h1 h2 h3 h6 h7 hW3 hf3 hat
    unfold prV
    gi_wp2
    rw [HW3.out]
    exact HK1.out _ rfl
  case body =>
    rintro y pre z a2 W hy hl ⟨rv, bv, h1, h2, h3, h6, h7⟩ ⟨O, rfl, hat, hO⟩ hpre
    obtain ⟨x, hx⟩ : ∃ x, L.getD z.val pr0 = x := ⟨_, rfl⟩
    have hxs := hlow z.val z.2
    rw [hx] at hat hxs ⊢
    have hpx : pl L (pre ++ [z]) = pl L pre ++ [x] := by rw [pl_app, hx]
    have hpl : (pl L pre).length < L.length := by rw [pl_len]; exact hpre
    have hplo := pl_low hlow pre
    have HPX : Hid (∀ W', (∃ rv bv, PkS w e rv bv (pl L pre ++ [x]).length (keyAt (pl L pre ++ [x]) (pl L pre ++ [x]).length) W' ∧ BX w1.heap.size W' bv rv (pairsB e (pl L pre ++ [x]) (pl L pre ++ [x]).length) (nI (startsN e (pl L pre ++ [x]) (pl L pre ++ [x]).length)) ∧ ordP (pl L pre ++ [x]) ∧ Fr No w W' ∧ w1.heap.size ≤ W'.heap.size) → PkI w w1 e L (pre ++ [z]) W') := Lib.hid fun W' h => by
      unfold PkI
      rw [hpx]
      exact h
    have HPN : Hid (∀ W', ¬ ordP (pl L pre ++ [x]) → At W' (w.heap.size + 1) 165 #[.pointer none] → At W' (w.heap.size + 1 + 1) 28 #[.int .i64 31] → Fr No w W' → PkX w L .ret (pre ++ [z]) W') := Lib.hid fun W' a1 a2 a3 a4 => ⟨rfl, by rw [hpx]; exact a1, a2, a3, a4⟩
    generalize pl L pre = l at *
    have hST : ∀ l' : List Pr, l' = l ++ [x] → l'.length = l.length + 1 := fun l' h => by rw [h, List.length_append]; rfl
    have HLEN := Lib.hid (hST _ rfl)
    have HPS := Lib.hid (pairs_step e l x)
    have HSS := Lib.hid (starts_step e l x)
    have HKS := Lib.hid (key_step l x)
    have HOS := Lib.hid (ord_step l x)
    have HPL : Hid ((pairsB e l l.length).length ≤ 10000000000) := Lib.hid (by
      have q1 := pairsB_len e l 100000 (by omega) hplo l.length (Nat.le_refl _)
      have q2 : l.length * (27 + 2 * 100000) ≤ 40000 * (27 + 2 * 100000) := Nat.mul_le_mul_right _ (by omega)
      omega)
    have HSL : Hid ((nI (startsN e l l.length)).length ≤ 40000) := Lib.hid (by
      rw [nI_len]
      have := startsN_len e l l.length
      omega)
    have HSHL := Lib.hid (shr_le e l x)
    have HSHE : Hid (shr e l x = if l.length % e = 0 then 0 else shL (bs (keyAt l l.length)) (bs x.key)) := Lib.hid rfl
    have hkl : l.length ≤ 40000 := by omega
    have hks : (keyAt l l.length).size ≤ 100000 := by
      unfold keyAt
      split
      · exact Nat.zero_le _
      · exact (hplo (l.length - 1) (by omega)).1
    generalize keyAt l l.length = ah at *
    generalize shr e l x = sh at *
    obtain ⟨k, hk⟩ : ∃ k, l.length = k := ⟨_, rfl⟩
    rw [hk] at h1 h2 hkl HLEN HPS HSS HKS HOS HPL HSL HSHE
    obtain ⟨ba, bc, rfl, _⟩ := h2.out.form
    obtain ⟨ra, rc, rfl, _⟩ := h2.starts.form
    obtain ⟨pn, hpn⟩ : ∃ pn, (pairsB e l k).length = pn := ⟨_, rfl⟩
    obtain ⟨rn, hrn⟩ : ∃ rn, (nI (startsN e l k)).length = rn := ⟨_, rfl⟩
    rw [hpn] at h1 h2 HSS HPL
    rw [hrn] at h1 h2 HSL
    have HPNE := Lib.hid hpn
    have HRNE := Lib.hid hrn
    clear hpn hrn
    have b0 := h1.b0.cell 0
    have c32 := h1.b3.cell 2
    have c31 := h1.b3.cell 1
    have c4 := h1.b4.cell 0
    have c5 := h1.b5.cell 0
    have c6 := h1.b6.cell 0
    have o0 := hat.cell 0
    have o1 := hat.cell 1
    have H1 := Lib.hid h1
    have H2 := Lib.hid h2
    have H3 := Lib.hid h3
    have H6 := Lib.hid h6
    have H7 := Lib.hid h7
    have HAT := Lib.hid hat
    have HO := Lib.hid hO
    have HXS := Lib.hid hxs
    have HKZ := Lib.hid hks
    clear h1 h2 h3 h6 h7 hat hO hST hpx hplo hx hpl hpre hxs hks hk
    unfold prV
    by_cases hk0 : 0 < k
    · by_cases hbad : cmpB (bs x.key) (bs ah) ≤ 0
      · have d0 : decide ((k : Int) > 0) = true := by rw [decide_eq_true_eq]; omega
        have hle := leq_str x.key ah
        rw [decide_eq_true hbad] at hle
        have r0 := H1.out.b1.frozen 0
        have r1 := H1.out.b1.cell 0
        have f1 := fr_one W (w.heap.size + 1) 0 (.pointer none)
        have g2 := H1.out.b2.keep f1 (fun h => by have h : w.heap.size + 1 + 1 = w.heap.size + 1 := h; omega)
        have r2 := g2.cell 0
        have r3 := g2.frozen 0
        have f2 := fr_one (W.setCell ⟨w.heap.size + 1, 0, none⟩ (.pointer none)) (w.heap.size + 1 + 1) 0 (.int .i64 31)
        have FIN : Hid (KeepsFrom w1.heap.size W ((W.setCell ⟨w.heap.size + 1, 0, none⟩ (.pointer none)).setCell ⟨w.heap.size + 1 + 1, 0, none⟩ (.int .i64 31)) ∧ PkX w L .ret (pre ++ [z]) ((W.setCell ⟨w.heap.size + 1, 0, none⟩ (.pointer none)).setCell ⟨w.heap.size + 1 + 1, 0, none⟩ (.int .i64 31))) := Lib.hid
          ⟨((KeepsOthers.setCell _ _ _).trans (KeepsOthers.setCell _ _ _)).from _, HPN.out _ (fun h => by
            have := (HOS.out.1 h).2
            have h9 := cmpB_neg (bs ah) (bs x.key)
            omega) ((H1.out.b1.set_ 0 _).keep f2 (fun h => by have h : w.heap.size + 1 = w.heap.size + 1 + 1 := h; omega)) (g2.set_ 0 _) ((H6.out.then_ f1 (fun q hq h => by have h : q = w.heap.size + 1 := h; omega)).then_ f2 (fun q hq h => by have h : q = w.heap.size + 1 + 1 := h; omega))⟩
        clear f1 f2 g2
        gi_wp2
        exact FIN.out
      · have hok := hbad
        have d0 : decide ((k : Int) > 0) = true := by rw [decide_eq_true_eq]; omega
        have hle := leq_str x.key ah
        rw [decide_eq_false hok] at hle
        have HORD : Hid (ordP (l ++ [x])) := Lib.hid (HOS.out.2 ⟨H3.out, .inr (by have h9 := cmpB_neg (bs ah) (bs x.key); omega)⟩)
        have he0 : ((e : Int) == 0) = false := by rw [beq_eq_false_iff_ne]; omega
        have he1 : ¬ (e : Int) = 0 := by omega
        obtain ⟨qm, hqm⟩ : ∃ qm, k % e = qm := ⟨_, rfl⟩
        have hqi : (k : Int) % (e : Int) = (qm : Int) := by rw [← hqm]; rfl
        have hqt : (k : Int).tmod (e : Int) = (qm : Int) := by rw [← Int.ofNat_tmod, hqm]
        gi_wp2
        refine wpIn_region_round (S := fun w' => w'.cell? ⟨w.heap.size + 1 + 1 + 1 + 1, 0, none⟩ = some (.pointer (some ⟨w.heap.size + 1 + 1 + 1, 0, none⟩)) ∧ w'.cell? ⟨w.heap.size + 1 + 1 + 1, 2, none⟩ = some (.int .i64 (k : Int)) ∧ w'.cell? ⟨w.heap.size, 0, none⟩ = some (.int .i64 (e : Int))) (by kernel_rfl) (by kernel_rfl) (fun h => by obtain ⟨_, _, h⟩ := h; exact h) ⟨c4, c32, b0⟩ (fun hSx => ?_)
        refine take_drop (i := 0) (v := ?v0_w1) rfl (by kernel_rfl) (by kernel_rfl) (by kernel_rfl) (fun _ _ _ h => h) (Or.inl ⟨by rfl, ?h0_w1⟩) hSx ?r0_w1
        case h0_w1 => (intro wS hSw; obtain ⟨s1, s2, s3⟩ := hSw; go_simp; all_goals (first | (with_reducible rfl) | (rw [if_neg (by omega)])))
        simp only [Act.put, List.setIfInBounds_toArray, List.set_cons_zero, List.set_cons_succ]
        refine take_drop (i := 1) (v := ?v1_w2) rfl (by kernel_rfl) (by kernel_rfl) (by kernel_rfl) (fun _ _ _ h => h) (Or.inl ⟨by rfl, ?h1_w2⟩) hSx ?r1_w2
        case h1_w2 => (intro wS hSw; obtain ⟨s1, s2, s3⟩ := hSw; go_simp; all_goals (first | (with_reducible rfl) | (rw [if_neg (by omega)])))
        simp only [Act.put, List.setIfInBounds_toArray, List.set_cons_zero, List.set_cons_succ]
        refine take_drop (i := 2) (v := ?v2_w3) rfl (by kernel_rfl) (by kernel_rfl) (by kernel_rfl) (fun _ _ _ h => h) (Or.inl ⟨by rfl, ?h2_w3⟩) hSx ?r2_w3
        case h2_w3 => (intro wS hSw; obtain ⟨s1, s2, s3⟩ := hSw; go_simp; all_goals (first | (with_reducible rfl) | (rw [if_neg (by omega)])))
        simp only [Act.put, List.setIfInBounds_toArray, List.set_cons_zero, List.set_cons_succ]
        refine take_drop (i := 3) (v := ?v3_w4) rfl (by kernel_rfl) (by kernel_rfl) (by kernel_rfl) (fun _ _ _ h => h) (Or.inl ⟨by rfl, ?h3_w4⟩) hSx ?r3_w4
        case h3_w4 => (intro wS hSw; obtain ⟨s1, s2, s3⟩ := hSw; go_simp; all_goals (first | (with_reducible rfl) | (rw [if_neg (by omega)])))
        simp only [Act.put, List.setIfInBounds_toArray, List.set_cons_zero, List.set_cons_succ]
        refine take_drop (i := 4) (v := ?v4_w5) rfl (by kernel_rfl) (by kernel_rfl) (by kernel_rfl) (fun _ _ _ h => h) (Or.inl ⟨by rfl, ?h4_w5⟩) hSx ?r4_w5
        case h4_w5 => (intro wS hSw; obtain ⟨s1, s2, s3⟩ := hSw; go_simp; all_goals (first | (with_reducible rfl) | (rw [if_neg (by omega)])))
        simp only [Act.put, List.setIfInBounds_toArray, List.set_cons_zero, List.set_cons_succ]
        refine take_drop (i := 5) (v := ?v5_w6) rfl (by kernel_rfl) (by kernel_rfl) (by kernel_rfl) (fun _ _ _ h => h) (Or.inl ⟨by rfl, ?h5_w6⟩) hSx ?r5_w6
        case h5_w6 => (intro wS hSw; obtain ⟨s1, s2, s3⟩ := hSw; go_simp; all_goals (first | (with_reducible rfl) | (rw [if_neg (by omega)])))
        simp only [Act.put, List.setIfInBounds_toArray, List.set_cons_zero, List.set_cons_succ]
        refine take_drop (i := 6) (v := ?v6_w7) rfl (by kernel_rfl) (by kernel_rfl) (by kernel_rfl) (fun _ _ _ h => h) (Or.inl ⟨by rfl, ?h6_w7⟩) hSx ?r6_w7
        case h6_w7 => (intro wS hSw; obtain ⟨s1, s2, s3⟩ := hSw; go_simp; all_goals (first | (with_reducible rfl) | (rw [if_neg (by omega)])))
        simp only [Act.put, List.setIfInBounds_toArray, List.set_cons_zero, List.set_cons_succ]
        refine wpAnyH_done (by kernel_rfl) ?_ _
        obtain ⟨W1, hW1⟩ : ∃ W1, W.drew = W1 := ⟨_, rfl⟩
        rw [hW1]
        have f1 : Fr No W W1 := by rw [← hW1]; exact (Fr.refl No W).drew
        have HFR : Hid (Fr (PkT w (.slice ra rn rc) (.slice ba pn bc)) W W1) := Lib.hid (f1.sub fun _ _ h => h.elim)
        have H1w := Lib.hid (H1.out.keep f1 (fun _ h => h.elim))
        have H2w := Lib.hid (H2.out.keep f1 (fun _ h => h.elim))
        have HATw := Lib.hid (HAT.out.keep f1 (fun h => h))
        have HSZ : Hid (w1.heap.size ≤ W1.heap.size) := Lib.hid (Nat.le_trans H7.out f1.size)
        clear hSx hW1 f1 b0 c32 c31 c4 c5 c6 o0 o1
        by_cases hq0 : qm = 0
        · have hrem : ((qm : Int) == 0) = true := by rw [beq_iff_eq]; omega
          have c4 := H1w.out.b4.cell 0
          have c31 := H1w.out.b3.cell 1
          have c5 := H1w.out.b5.cell 0
          gi_wp2
          refine wpIn_region_round (S := fun w' => w'.cell? ⟨w.heap.size + 1 + 1 + 1 + 1, 0, none⟩ = some (.pointer (some ⟨w.heap.size + 1 + 1 + 1, 0, none⟩)) ∧ w'.cell? ⟨w.heap.size + 1 + 1 + 1 + 1 + 1, 0, none⟩ = some (.slice ba pn bc)) (by kernel_rfl) (by kernel_rfl) (fun h => by obtain ⟨_, _, h⟩ := h; exact h) ⟨c4, c5⟩ (fun hSx => ?_)
          refine take_drop (i := 0) (v := ?v0_w8) rfl (by kernel_rfl) (by kernel_rfl) (by kernel_rfl) (fun _ _ _ h => h) (Or.inl ⟨by rfl, ?h0_w8⟩) hSx ?r0_w8
          case h0_w8 => (intro wS hSw; obtain ⟨s1, s2⟩ := hSw; go_simp; all_goals (first | (with_reducible rfl) | (rw [if_neg (by omega)])))
          simp only [Act.put, List.setIfInBounds_toArray, List.set_cons_zero, List.set_cons_succ]
          refine take_drop (i := 1) (v := ?v1_w9) rfl (by kernel_rfl) (by kernel_rfl) (by kernel_rfl) (fun _ _ _ h => h) (Or.inl ⟨by rfl, ?h1_w9⟩) hSx ?r1_w9
          case h1_w9 => (intro wS hSw; obtain ⟨s1, s2⟩ := hSw; go_simp; all_goals (first | (with_reducible rfl) | (rw [if_neg (by omega)])))
          simp only [Act.put, List.setIfInBounds_toArray, List.set_cons_zero, List.set_cons_succ]
          refine take_drop (i := 2) (v := ?v2_w10) rfl (by kernel_rfl) (by kernel_rfl) (by kernel_rfl) (fun _ _ _ h => h) (Or.inl ⟨by rfl, ?h2_w10⟩) hSx ?r2_w10
          case h2_w10 => (intro wS hSw; obtain ⟨s1, s2⟩ := hSw; go_simp; all_goals (first | (with_reducible rfl) | (rw [if_neg (by omega)])))
          simp only [Act.put, List.setIfInBounds_toArray, List.set_cons_zero, List.set_cons_succ]
          refine take_drop (i := 3) (v := ?v3_w11) rfl (by kernel_rfl) (by kernel_rfl) (by kernel_rfl) (fun _ _ _ h => h) (Or.inl ⟨by rfl, ?h3_w11⟩) hSx ?r3_w11
          case h3_w11 => (intro wS hSw; obtain ⟨s1, s2⟩ := hSw; go_simp; all_goals (first | (with_reducible rfl) | (rw [if_neg (by omega)])))
          simp only [Act.put, List.setIfInBounds_toArray, List.set_cons_zero, List.set_cons_succ]
          refine take_drop (i := 5) (v := ?v5_w12) rfl (by kernel_rfl) (by kernel_rfl) (by kernel_rfl) (fun _ _ _ h => h) (Or.inl ⟨by rfl, ?h5_w12⟩) hSx ?r5_w12
          case h5_w12 => (intro wS hSw; obtain ⟨s1, s2⟩ := hSw; go_simp; all_goals (first | (with_reducible rfl) | (rw [if_neg (by omega)])))
          simp only [Act.put, List.setIfInBounds_toArray, List.set_cons_zero, List.set_cons_succ]
          refine take_drop (i := 6) (v := ?v6_w13) rfl (by kernel_rfl) (by kernel_rfl) (by kernel_rfl) (fun _ _ _ h => h) (Or.inl ⟨by rfl, ?h6_w13⟩) hSx ?r6_w13
          case h6_w13 => (intro wS hSw; obtain ⟨s1, s2⟩ := hSw; go_simp; all_goals (first | (with_reducible rfl) | (rw [if_neg (by omega)])))
          simp only [Act.put, List.setIfInBounds_toArray, List.set_cons_zero, List.set_cons_succ]
          obtain ⟨W2, hW2⟩ : ∃ W2, W1.drew = W2 := ⟨_, rfl⟩
          rw [hW2] at hSx ⊢
          have f2 : Fr No W1 W2 := by rw [← hW2]; exact (Fr.refl No W1).drew
          have f2b := f2.alloc (.cells #[.int .i64 (pn : Int)] 3)
          obtain ⟨v3, W3, hrun, hbx, hf3⟩ := (H2w.out.keep f2 (fun _ h => h.elim)).push (Nat.le_trans HSZ.out f2.size) (pn : Int) (by rw [HRNE.out]; have := HSL.out; omega)
          obtain ⟨ra3, rn3, rc3, rfl⟩ := hbx.starts.form_
          have HRUN := Lib.hid hrun
          have hnk : ∀ q, Own1 (.slice ra rn rc) q → w.heap.size + 7 ≤ q := fun q hq => by have := H2w.out.news q hq; have := K3.out; omega
          have H1x := Lib.hid ((H1w.out.keep f2 (fun _ h => h.elim)).keep hf3 hnk)
          have fst := fr_one W3 (w.heap.size + 1 + 1 + 1) 1 (.slice ra3 rn3 rc3)
          have H1y := Lib.hid (H1x.out.setR (.slice ra3 rn3 rc3))
          have HBX : Hid (BX w1.heap.size (W3.setCell ⟨w.heap.size + 1 + 1 + 1, 1, none⟩ (.slice ra3 rn3 rc3)) (.slice ba pn bc) (.slice ra3 rn3 rc3) (pairsB e l k) (nI (startsN e (l ++ [x]) (k + 1)))) := Lib.hid (by
            rw [HSS.out, if_pos (by rw [hqm]; exact hq0)]
            unfold nI at hbx ⊢
            rw [List.map_append]
            exact hbx.keep fst (fun q h => by have h : q = w.heap.size + 1 + 1 + 1 := h; have := K3.out; omega))
          have HATy := Lib.hid (((HATw.out.keep f2 (fun h => h)).keep hf3 (fun h => H2w.out.notPair (.inr h) HATw.out)).keep fst (fun h => by have h : O = w.heap.size + 1 + 1 + 1 := h; have := HO.out; have := K3.out; omega))
          have HFRy := Lib.hid (((HFR.out.then_ f2 (fun _ _ h => h.elim)).then_ hf3 (fun q hq h => .inr (.inr (.inr (.inr h))))).then_ fst (fun q hq h => .inl h))
          have HSZy : Hid (w1.heap.size ≤ (W3.setCell ⟨w.heap.size + 1 + 1 + 1, 1, none⟩ (.slice ra3 rn3 rc3)).heap.size) := Lib.hid (Nat.le_trans (Nat.le_trans (Nat.le_trans HSZ.out f2.size) hf3.size) fst.size)
          have e4 := H1x.out.b4.cell 0
          have e31 := H1x.out.b3.cell 1
          have e5 := H1x.out.b5.cell 0
          have ez := H1x.out.b3.frozen 1
          have g4 := H1y.out.b4.cell 0
          have g5 := H1y.out.b5.cell 0
          have m4 := (f2b.cell c4 (fun h => h))
          have m31 := (f2b.cell c31 (fun h => h))
          have m5 := (f2b.cell c5 (fun h => h))
          have c31 := f2.cell c31 (fun h => h)
          clear hrun hbx hf3 hnk f2 f2b hW2 c4 c5 H1w H2w HATw HFR HSZ H1x fst
          refine wpAnyH_ready (rs := [4, 7]) (by kernel_rfl) (by simp) ?_
          refine do_drop (i := 4) rfl (fun K hK => ?_) ?_
          · go_simp
            refine hK.out _ _ hSx ?_
            clear hK K
            try simp only [Act.put, List.setIfInBounds_toArray, List.set_cons_zero, List.set_cons_succ]
            refine wpAnyH_ready (rs := [7]) (by kernel_rfl) (by simp) ?_
            refine do_drop (i := 7) rfl (fun K hK => ?_) AllReadyH.nil
            go_simp
            refine hK.out _ _ ⟨m4, m5⟩ ?_
            clear hK K
            try simp only [Act.put, List.setIfInBounds_toArray, List.set_cons_zero, List.set_cons_succ]
            refine wpAnyH_ready (rs := [8]) (by kernel_rfl) (by simp) ?_
            refine do_drop (i := 8) rfl (fun K hK => ?_) AllReadyH.nil
            rw [if_pos (by rfl)]
            refine oper_append_run _ _ 43 rfl rfl rfl HRUN.out ?_
            refine hK.out _ _ ⟨e4, e5⟩ ?_
            clear hK K hSx
            try simp only [Act.put, List.setIfInBounds_toArray, List.set_cons_zero, List.set_cons_succ]
            have hSx : W3.cell? ⟨w.heap.size + 1 + 1 + 1 + 1, 0, none⟩ = some (.pointer (some ⟨w.heap.size + 1 + 1 + 1, 0, none⟩)) ∧ W3.cell? ⟨w.heap.size + 1 + 1 + 1 + 1 + 1, 0, none⟩ = some (.slice ba pn bc) := ⟨e4, e5⟩
            refine take_drop (i := 9) (v := ?v9_w14) rfl (by kernel_rfl) (by kernel_rfl) (by kernel_rfl) (fun _ _ _ h => h) (Or.inl ⟨by rfl, ?h9_w14⟩) hSx ?r9_w14
            case h9_w14 => (intro wS hSw; obtain ⟨s1, s2⟩ := hSw; go_simp; all_goals (first | (with_reducible rfl) | (rw [if_neg (by omega)])))
            simp only [Act.put, List.setIfInBounds_toArray, List.set_cons_zero, List.set_cons_succ]
            refine take_drop (i := 10) (v := ?v10_w15) rfl (by kernel_rfl) (by kernel_rfl) (by kernel_rfl) (fun _ _ _ h => h) (Or.inl ⟨by rfl, ?h10_w15⟩) hSx ?r10_w15
            case h10_w15 => (intro wS hSw; obtain ⟨s1, s2⟩ := hSw; go_simp; all_goals (first | (with_reducible rfl) | (rw [if_neg (by omega)])))
            simp only [Act.put, List.setIfInBounds_toArray, List.set_cons_zero, List.set_cons_succ]
            refine wpAnyH_ready (rs := [11]) (by kernel_rfl) (by simp) ?_
            refine do_drop (i := 11) rfl (fun K hK => ?_) AllReadyH.nil
            go_simp
            refine hK.out _ _ ⟨g4, g5⟩ ?_
            clear hK K hSx
            refine wpAnyH_done (by kernel_rfl) ?_ _
            obtain ⟨W4, hW4⟩ : ∃ W4, W3.setCell ⟨w.heap.size + 1 + 1 + 1, 1, none⟩ (.slice ra3 rn3 rc3) = W4 := ⟨_, rfl⟩
            rw [hW4] at H1y HBX HATy HFRy HSZy ⊢
            have c6 := H1y.out.b6.cell 0
            have z6 := H1y.out.b6.frozen 0
            have fst := fr_one W4 (w.heap.size + 1 + 1 + 1 + 1 + 1 + 1) 0 (.string ⟨#[]⟩)
            have H1z : Hid (PkS w e (.slice ra3 rn3 rc3) (.slice ba pn bc) k ⟨#[]⟩ (W4.setCell ⟨w.heap.size + 1 + 1 + 1 + 1 + 1 + 1, 0, none⟩ (.string ⟨#[]⟩))) := Lib.hid (H1y.out.setAh ⟨#[]⟩)
            have HBZ := Lib.hid (HBX.out.keep fst (fun q h => by have h : q = w.heap.size + 1 + 1 + 1 + 1 + 1 + 1 := h; have := K3.out; omega))
            have HATz := Lib.hid (HATy.out.keep fst (fun h => by have h : O = w.heap.size + 1 + 1 + 1 + 1 + 1 + 1 := h; have := HO.out; have := K3.out; omega))
            have HFRz := Lib.hid (HFRy.out.then_ fst (fun q hq h => .inr (.inr (.inl h))))
            have HSZz : Hid (w1.heap.size ≤ (W4.setCell ⟨w.heap.size + 1 + 1 + 1 + 1 + 1 + 1, 0, none⟩ (.string ⟨#[]⟩)).heap.size) := Lib.hid (Nat.le_trans HSZy.out fst.size)
            clear fst hW4 e4 e31 e5 ez g4 g5 m4 m5 m31 c31 HRUN H1y HBX HATy HFRy HSZy
            gi_wp2
            obtain ⟨W5, hW5⟩ : ∃ W5, W4.setCell ⟨w.heap.size + 1 + 1 + 1 + 1 + 1 + 1, 0, none⟩ (.string ⟨#[]⟩) = W5 := ⟨_, rfl⟩
            rw [hW5] at H1z HBZ HATz HFRz HSZz ⊢
            clear hW5 c6 z6
            have HSHX : Hid (∀ w, Calls Tryz.prog 121 #[.string ⟨#[]⟩, .string x.key] w (PlainRet (.int .i64 (sh : Int)) w)) := Lib.hid fun w => by
              have q := bshared_c ⟨#[]⟩ x.key (Nat.zero_le _) (Nat.le_trans HXS.out.1 (by unfold maxLen; omega)) w
              have q2 : shL (bs ⟨#[]⟩) (bs x.key) = sh := by rw [HSHE.out, if_pos (by rw [hqm]; exact hq0)]; exact shL_nil _
              rw [q2] at q
              exact q
            have c6 := H1z.out.b6.cell 0
            have c5 := H1z.out.b5.cell 0
            have o0 := HATz.out.cell 0
            have o1 := HATz.out.cell 1
            have HBOC : Hid (∀ w, Calls Tryz.prog 144 #[.agg #[.string x.key, .string x.val], .int .i64 (sh : Int)] w (NewRow (oneB x sh) w)) := Lib.hid fun w => bytesOf_c x sh w HSHL.out (Nat.le_trans HXS.out.1 (by omega)) (Nat.le_trans HXS.out.2 (by omega))
            have HOL : Hid ((oneB x sh).length ≤ 300027) := Lib.hid (by
              have := HSHL.out
              have := HXS.out
              have q1 := enc_len9 (show sh < 9223372036854775808 by omega)
              have q2 := enc_len9 (show x.key.size - sh < 9223372036854775808 by omega)
              have q3 := enc_len9 (show x.val.size < 9223372036854775808 by omega)
              unfold oneB
              simp only [List.length_append, List.length_drop, bs_length]
              omega)
            gi_wp2
            refine wpIn_region_round (S := fun w' => w'.cell? ⟨w.heap.size + 1 + 1 + 1 + 1 + 1 + 1, 0, none⟩ = some (.string ⟨#[]⟩) ∧ w'.cell? ⟨O, 0, none⟩ = some (.string x.key) ∧ w'.cell? ⟨O, 1, none⟩ = some (.string x.val)) (by kernel_rfl) (by kernel_rfl) (fun h => by obtain ⟨_, _, h⟩ := h; exact h) ⟨c6, o0, o1⟩ (fun hSx => ?_)
            refine take_drop (i := 1) (v := ?v1_w16) rfl (by kernel_rfl) (by kernel_rfl) (by kernel_rfl) (fun _ _ _ h => h) (Or.inl ⟨by rfl, ?h1_w16⟩) hSx ?r1_w16
            case h1_w16 => (intro wS hSw; obtain ⟨s1, s2, s3⟩ := hSw; go_simp; all_goals (first | (with_reducible rfl) | (rw [if_neg (by omega)])))
            simp only [Act.put, List.setIfInBounds_toArray, List.set_cons_zero, List.set_cons_succ]
            refine take_drop (i := 2) (v := ?v2_w17) rfl (by kernel_rfl) (by kernel_rfl) (by kernel_rfl) (fun _ _ _ h => h) (Or.inl ⟨by rfl, ?h2_w17⟩) hSx ?r2_w17
            case h2_w17 => (intro wS hSw; obtain ⟨s1, s2, s3⟩ := hSw; go_simp; all_goals (first | (with_reducible rfl) | (rw [if_neg (by omega)])))
            simp only [Act.put, List.setIfInBounds_toArray, List.set_cons_zero, List.set_cons_succ]
            refine take_drop (i := 3) (v := ?v3_w18) rfl (by kernel_rfl) (by kernel_rfl) (by kernel_rfl) (fun _ _ _ h => h) (Or.inl ⟨by rfl, ?h3_w18⟩) hSx ?r3_w18
            case h3_w18 => (intro wS hSw; obtain ⟨s1, s2, s3⟩ := hSw; go_simp; all_goals (first | (with_reducible rfl) | (rw [if_neg (by omega)])))
            simp only [Act.put, List.setIfInBounds_toArray, List.set_cons_zero, List.set_cons_succ]
            refine take_drop (i := 4) (v := ?v4_w19) rfl (by kernel_rfl) (by kernel_rfl) (by kernel_rfl) (fun _ _ _ h => h) (Or.inl ⟨by rfl, ?h4_w19⟩) hSx ?r4_w19
            case h4_w19 => (intro wS hSw; obtain ⟨s1, s2, s3⟩ := hSw; go_simp; all_goals (first | (with_reducible rfl) | (rw [if_neg (by omega)])))
            simp only [Act.put, List.setIfInBounds_toArray, List.set_cons_zero, List.set_cons_succ]
            have HFB : Hid (Fr No W5 W5.drew) := Lib.hid ((Fr.refl No W5).drew)
            refine wpAnyH_ready (rs := [0, 5]) (by kernel_rfl) (by simp) ?_
            refine do_drop (i := 0) rfl (fun K hK => ?_) ?_
            · go_simp
              refine hK.out _ _ hSx ?_
              clear hK K
              try simp only [Act.put, List.setIfInBounds_toArray, List.set_cons_zero, List.set_cons_succ]
              refine wpAnyH_ready (rs := [5]) (by kernel_rfl) (by simp) ?_
              refine do_drop (i := 5) rfl (fun K hK => ?_) AllReadyH.nil
              go_simp
              refine (HSHX.out _).mono ?_
              rintro en Wa ⟨rfl, fa⟩
              have hSx := (show Wa.cell? ⟨w.heap.size + 1 + 1 + 1 + 1 + 1 + 1, 0, none⟩ = some (.string ⟨#[]⟩) ∧ Wa.cell? ⟨O, 0, none⟩ = some (.string x.key) ∧ Wa.cell? ⟨O, 1, none⟩ = some (.string x.val) from ⟨fa.cell hSx.1 (fun h => h), fa.cell hSx.2.1 (fun h => h), fa.cell hSx.2.2 (fun h => h)⟩)
              have c5 := fa.cell c5 (fun h => h)
              have HFA := Lib.hid (HFB.out.trans fa)
              refine hK.out _ _ hSx ?_
              clear fa
              clear hK K
              try simp only [Act.put, List.setIfInBounds_toArray, List.set_cons_zero, List.set_cons_succ]
              refine wpAnyH_ready (rs := [6]) (by kernel_rfl) (by simp) ?_
              refine do_drop (i := 6) rfl (fun K hK => ?_) AllReadyH.nil
              go_simp
              refine (HBOC.out _).mono ?_
              rintro en Wb ⟨vb, rfl, rb, fb⟩
              obtain ⟨ab, cb, rfl, _, _, inb⟩ := rb.form
              have FB := HFA.out.trans fb
              obtain ⟨vn, Wc, hrun, hbx, hfc⟩ := (HBZ.out.keep FB (fun _ h => h.elim)).more (Nat.le_trans HSZz.out FB.size) ab _ cb (oneB x sh) rfl inb.rd (by rw [HPNE.out]; have := HOL.out; have := HPL.out; omega)
              obtain ⟨ba3, bn3, bc3, rfl⟩ := hbx.out.shape
              have hSx := (show Wb.cell? ⟨w.heap.size + 1 + 1 + 1 + 1 + 1 + 1, 0, none⟩ = some (.string ⟨#[]⟩) ∧ Wb.cell? ⟨O, 0, none⟩ = some (.string x.key) ∧ Wb.cell? ⟨O, 1, none⟩ = some (.string x.val) from ⟨fb.cell hSx.1 (fun h => h), fb.cell hSx.2.1 (fun h => h), fb.cell hSx.2.2 (fun h => h)⟩)
              have c5 := fb.cell c5 (fun h => h)
              have HRUN := Lib.hid hrun
              have hnb : ∀ q, Own1 (.slice ba pn bc) q → w.heap.size + 7 ≤ q := fun q hq => by have := HBZ.out.newo q hq; have := K3.out; omega
              have H1u := Lib.hid ((H1z.out.keep FB (fun _ h => h.elim)).keep hfc hnb)
              have HATu := Lib.hid ((HATz.out.keep FB (fun h => h)).keep hfc (fun h => HBZ.out.notPair (.inl h) HATz.out))
              have HFRu := Lib.hid ((HFRz.out.then_ FB (fun _ _ h => h.elim)).then_ hfc (fun q hq h => .inr (.inr (.inr (.inl h)))))
              have HSZu : Hid (w1.heap.size ≤ Wc.heap.size) := Lib.hid (Nat.le_trans (Nat.le_trans HSZz.out FB.size) hfc.size)
              have HBXu : Hid (BX w1.heap.size Wc (.slice ba3 bn3 bc3) (.slice ra3 rn3 rc3) (pairsB e (l ++ [x]) (k + 1)) (nI (startsN e (l ++ [x]) (k + 1)))) := Lib.hid (by rw [HPS.out]; exact hbx)
              obtain ⟨ol, hol⟩ : ∃ ol, (oneB x sh).length = ol := ⟨_, rfl⟩
              rw [hol] at HRUN ⊢
              refine hK.out _ _ hSx ?_
              clear fb rb inb hrun hbx hfc hnb FB hol
              clear hK K
              try simp only [Act.put, List.setIfInBounds_toArray, List.set_cons_zero, List.set_cons_succ]
              refine wpAnyH_ready (rs := [7]) (by kernel_rfl) (by simp) ?_
              refine do_drop (i := 7) rfl (fun K hK => ?_) AllReadyH.nil
              rw [if_pos (by rfl)]
              refine oper_append_run _ _ 27 rfl rfl rfl HRUN.out ?_
              have u6 := H1u.out.b6.cell 0
              have u5 := H1u.out.b5.cell 0
              have y5 := H1u.out.b5.frozen 0
              have uo0 := HATu.out.cell 0
              have uo1 := HATu.out.cell 1
              refine hK.out _ _ ⟨u6, uo0, uo1⟩ ?_
              clear c5
              clear hK K
              try simp only [Act.put, List.setIfInBounds_toArray, List.set_cons_zero, List.set_cons_succ]
              refine wpAnyH_ready (rs := [8]) (by kernel_rfl) (by simp) ?_
              refine do_drop (i := 8) rfl (fun K hK => ?_) AllReadyH.nil
              go_simp
              have fst := fr_one Wc (w.heap.size + 1 + 1 + 1 + 1 + 1) 0 (.slice ba3 bn3 bc3)
              have H1v := Lib.hid (H1u.out.setB (.slice ba3 bn3 bc3))
              have HATv := Lib.hid (HATu.out.keep fst (fun h => by have h : O = w.heap.size + 1 + 1 + 1 + 1 + 1 := h; have := HO.out; have := K3.out; omega))
              have HFRv := Lib.hid (HFRu.out.then_ fst (fun q hq h => .inr (.inl h)))
              have HSZv : Hid (w1.heap.size ≤ (Wc.setCell ⟨w.heap.size + 1 + 1 + 1 + 1 + 1, 0, none⟩ (.slice ba3 bn3 bc3)).heap.size) := Lib.hid (Nat.le_trans HSZu.out fst.size)
              have HBXv := Lib.hid (HBXu.out.keep fst (fun q h => by have h : q = w.heap.size + 1 + 1 + 1 + 1 + 1 := h; have := K3.out; omega))
              obtain ⟨Wd, hWd⟩ : ∃ Wd, Wc.setCell ⟨w.heap.size + 1 + 1 + 1 + 1 + 1, 0, none⟩ (.slice ba3 bn3 bc3) = Wd := ⟨_, rfl⟩
              rw [hWd] at H1v HATv HFRv HSZv HBXv ⊢
              have u6 := H1v.out.b6.cell 0
              have uo0 := HATv.out.cell 0
              have uo1 := HATv.out.cell 1
              refine hK.out _ _ ⟨u6, uo0, uo1⟩ ?_
              clear hK K hSx u5 y5 fst hWd H1u HATu HFRu HSZu HBXu
              refine wpAnyH_done (by kernel_rfl) ?_ _
              have y6 := H1v.out.b6.frozen 0
              have fs6 := fr_one Wd (w.heap.size + 1 + 1 + 1 + 1 + 1 + 1) 0 (.string x.key)
              have H1a := Lib.hid (H1v.out.setAh x.key)
              have HBXa := Lib.hid (HBXv.out.keep fs6 (fun q h => by have h : q = w.heap.size + 1 + 1 + 1 + 1 + 1 + 1 := h; have := K3.out; omega))
              have HFRa := Lib.hid (HFRv.out.then_ fs6 (fun q hq h => .inr (.inr (.inl h))))
              have a4 := H1a.out.b4.cell 0
              have a32 := H1a.out.b3.cell 2
              have y32 := H1a.out.b3.frozen 2
              have fs7 := fr_one (Wd.setCell ⟨w.heap.size + 1 + 1 + 1 + 1 + 1 + 1, 0, none⟩ (.string x.key)) (w.heap.size + 1 + 1 + 1) 2 (.int .i64 ((k + 1 : Nat) : Int))
              have H1b := Lib.hid (H1a.out.setC (k + 1))
              have HBXb := Lib.hid (HBXa.out.keep fs7 (fun q h => by have h : q = w.heap.size + 1 + 1 + 1 := h; have := K3.out; omega))
              have HFRb := Lib.hid (HFRa.out.then_ fs7 (fun q hq h => .inl h))
              have HSZb : Hid (w1.heap.size ≤ ((Wd.setCell ⟨w.heap.size + 1 + 1 + 1 + 1 + 1 + 1, 0, none⟩ (.string x.key)).setCell ⟨w.heap.size + 1 + 1 + 1, 2, none⟩ (.int .i64 ((k + 1 : Nat) : Int))).heap.size) := Lib.hid (Nat.le_trans (Nat.le_trans HSZv.out fs6.size) fs7.size)
              have FIN : Hid (KeepsFrom w1.heap.size W _ ∧ Kq (fun q => q < w.heap.size) W _ ∧ PkI w w1 e L (pre ++ [z]) ((Wd.setCell ⟨w.heap.size + 1 + 1 + 1 + 1 + 1 + 1, 0, none⟩ (.string x.key)).setCell ⟨w.heap.size + 1 + 1 + 1, 2, none⟩ (.int .i64 ((k + 1 : Nat) : Int)))) := Lib.hid (by
                obtain ⟨kk1, kk2⟩ := pk_keeps H1.out H2.out (show w.heap.size ≤ w1.heap.size by have := K3.out; omega) HFRb.out
                refine ⟨kk1.from _, kk2, HPX.out _ ⟨.slice ra3 rn3 rc3, .slice ba3 bn3 bc3, ?_, ?_, HORD.out, ?_, HSZb.out⟩⟩
                · rw [HLEN.out, HKS.out]
                  exact H1b.out
                · rw [HLEN.out]
                  exact HBXb.out
                · refine H6.out.then_ HFRb.out (fun q hq h => ?_)
                  rcases h with h | h | h | h | h
                  · omega
                  · omega
                  · omega
                  · have := H2.out.newo q h; have := K3.out; omega
                  · have := H2.out.news q h; have := K3.out; omega)
              rw [show ((k + 1 : Nat) : Int) = (k : Int) + 1 from rfl] at FIN
              clear fs6 fs7 H1b HBXb HFRb HSZb H1a HBXa HFRa H1v HATv HFRv HSZv HBXv
              gi_wp2
              exact FIN.out
            refine do_drop (i := 5) rfl (fun K hK => ?_) AllReadyH.nil
            go_simp
            refine (HSHX.out _).mono ?_
            rintro en Wa ⟨rfl, fa⟩
            have hSx := (show Wa.cell? ⟨w.heap.size + 1 + 1 + 1 + 1 + 1 + 1, 0, none⟩ = some (.string ⟨#[]⟩) ∧ Wa.cell? ⟨O, 0, none⟩ = some (.string x.key) ∧ Wa.cell? ⟨O, 1, none⟩ = some (.string x.val) from ⟨fa.cell hSx.1 (fun h => h), fa.cell hSx.2.1 (fun h => h), fa.cell hSx.2.2 (fun h => h)⟩)
            have c5 := fa.cell c5 (fun h => h)
            have HFA := Lib.hid (HFB.out.trans fa)
            refine hK.out _ _ hSx ?_
            clear fa
            clear hK K
            try simp only [Act.put, List.setIfInBounds_toArray, List.set_cons_zero, List.set_cons_succ]
            refine wpAnyH_ready (rs := [0, 6]) (by kernel_rfl) (by simp) ?_
            refine do_drop (i := 0) rfl (fun K hK => ?_) ?_
            · go_simp
              refine hK.out _ _ hSx ?_
              clear hK K
              try simp only [Act.put, List.setIfInBounds_toArray, List.set_cons_zero, List.set_cons_succ]
              refine wpAnyH_ready (rs := [6]) (by kernel_rfl) (by simp) ?_
              refine do_drop (i := 6) rfl (fun K hK => ?_) AllReadyH.nil
              go_simp
              refine (HBOC.out _).mono ?_
              rintro en Wb ⟨vb, rfl, rb, fb⟩
              obtain ⟨ab, cb, rfl, _, _, inb⟩ := rb.form
              have FB := HFA.out.trans fb
              obtain ⟨vn, Wc, hrun, hbx, hfc⟩ := (HBZ.out.keep FB (fun _ h => h.elim)).more (Nat.le_trans HSZz.out FB.size) ab _ cb (oneB x sh) rfl inb.rd (by rw [HPNE.out]; have := HOL.out; have := HPL.out; omega)
              obtain ⟨ba3, bn3, bc3, rfl⟩ := hbx.out.shape
              have hSx := (show Wb.cell? ⟨w.heap.size + 1 + 1 + 1 + 1 + 1 + 1, 0, none⟩ = some (.string ⟨#[]⟩) ∧ Wb.cell? ⟨O, 0, none⟩ = some (.string x.key) ∧ Wb.cell? ⟨O, 1, none⟩ = some (.string x.val) from ⟨fb.cell hSx.1 (fun h => h), fb.cell hSx.2.1 (fun h => h), fb.cell hSx.2.2 (fun h => h)⟩)
              have c5 := fb.cell c5 (fun h => h)
              have HRUN := Lib.hid hrun
              have hnb : ∀ q, Own1 (.slice ba pn bc) q → w.heap.size + 7 ≤ q := fun q hq => by have := HBZ.out.newo q hq; have := K3.out; omega
              have H1u := Lib.hid ((H1z.out.keep FB (fun _ h => h.elim)).keep hfc hnb)
              have HATu := Lib.hid ((HATz.out.keep FB (fun h => h)).keep hfc (fun h => HBZ.out.notPair (.inl h) HATz.out))
              have HFRu := Lib.hid ((HFRz.out.then_ FB (fun _ _ h => h.elim)).then_ hfc (fun q hq h => .inr (.inr (.inr (.inl h)))))
              have HSZu : Hid (w1.heap.size ≤ Wc.heap.size) := Lib.hid (Nat.le_trans (Nat.le_trans HSZz.out FB.size) hfc.size)
              have HBXu : Hid (BX w1.heap.size Wc (.slice ba3 bn3 bc3) (.slice ra3 rn3 rc3) (pairsB e (l ++ [x]) (k + 1)) (nI (startsN e (l ++ [x]) (k + 1)))) := Lib.hid (by rw [HPS.out]; exact hbx)
              obtain ⟨ol, hol⟩ : ∃ ol, (oneB x sh).length = ol := ⟨_, rfl⟩
              rw [hol] at HRUN ⊢
              refine hK.out _ _ hSx ?_
              clear fb rb inb hrun hbx hfc hnb FB hol
              clear hK K
              try simp only [Act.put, List.setIfInBounds_toArray, List.set_cons_zero, List.set_cons_succ]
              refine wpAnyH_ready (rs := [7]) (by kernel_rfl) (by simp) ?_
              refine do_drop (i := 7) rfl (fun K hK => ?_) AllReadyH.nil
              rw [if_pos (by rfl)]
              refine oper_append_run _ _ 27 rfl rfl rfl HRUN.out ?_
              have u6 := H1u.out.b6.cell 0
              have u5 := H1u.out.b5.cell 0
              have y5 := H1u.out.b5.frozen 0
              have uo0 := HATu.out.cell 0
              have uo1 := HATu.out.cell 1
              refine hK.out _ _ ⟨u6, uo0, uo1⟩ ?_
              clear c5
              clear hK K
              try simp only [Act.put, List.setIfInBounds_toArray, List.set_cons_zero, List.set_cons_succ]
              refine wpAnyH_ready (rs := [8]) (by kernel_rfl) (by simp) ?_
              refine do_drop (i := 8) rfl (fun K hK => ?_) AllReadyH.nil
              go_simp
              have fst := fr_one Wc (w.heap.size + 1 + 1 + 1 + 1 + 1) 0 (.slice ba3 bn3 bc3)
              have H1v := Lib.hid (H1u.out.setB (.slice ba3 bn3 bc3))
              have HATv := Lib.hid (HATu.out.keep fst (fun h => by have h : O = w.heap.size + 1 + 1 + 1 + 1 + 1 := h; have := HO.out; have := K3.out; omega))
              have HFRv := Lib.hid (HFRu.out.then_ fst (fun q hq h => .inr (.inl h)))
              have HSZv : Hid (w1.heap.size ≤ (Wc.setCell ⟨w.heap.size + 1 + 1 + 1 + 1 + 1, 0, none⟩ (.slice ba3 bn3 bc3)).heap.size) := Lib.hid (Nat.le_trans HSZu.out fst.size)
              have HBXv := Lib.hid (HBXu.out.keep fst (fun q h => by have h : q = w.heap.size + 1 + 1 + 1 + 1 + 1 := h; have := K3.out; omega))
              obtain ⟨Wd, hWd⟩ : ∃ Wd, Wc.setCell ⟨w.heap.size + 1 + 1 + 1 + 1 + 1, 0, none⟩ (.slice ba3 bn3 bc3) = Wd := ⟨_, rfl⟩
              rw [hWd] at H1v HATv HFRv HSZv HBXv ⊢
              have u6 := H1v.out.b6.cell 0
              have uo0 := HATv.out.cell 0
              have uo1 := HATv.out.cell 1
              refine hK.out _ _ ⟨u6, uo0, uo1⟩ ?_
              clear hK K hSx u5 y5 fst hWd H1u HATu HFRu HSZu HBXu
              refine wpAnyH_done (by kernel_rfl) ?_ _
              have y6 := H1v.out.b6.frozen 0
              have fs6 := fr_one Wd (w.heap.size + 1 + 1 + 1 + 1 + 1 + 1) 0 (.string x.key)
              have H1a := Lib.hid (H1v.out.setAh x.key)
              have HBXa := Lib.hid (HBXv.out.keep fs6 (fun q h => by have h : q = w.heap.size + 1 + 1 + 1 + 1 + 1 + 1 := h; have := K3.out; omega))
              have HFRa := Lib.hid (HFRv.out.then_ fs6 (fun q hq h => .inr (.inr (.inl h))))
              have a4 := H1a.out.b4.cell 0
              have a32 := H1a.out.b3.cell 2
              have y32 := H1a.out.b3.frozen 2
              have fs7 := fr_one (Wd.setCell ⟨w.heap.size + 1 + 1 + 1 + 1 + 1 + 1, 0, none⟩ (.string x.key)) (w.heap.size + 1 + 1 + 1) 2 (.int .i64 ((k + 1 : Nat) : Int))
              have H1b := Lib.hid (H1a.out.setC (k + 1))
              have HBXb := Lib.hid (HBXa.out.keep fs7 (fun q h => by have h : q = w.heap.size + 1 + 1 + 1 := h; have := K3.out; omega))
              have HFRb := Lib.hid (HFRa.out.then_ fs7 (fun q hq h => .inl h))
              have HSZb : Hid (w1.heap.size ≤ ((Wd.setCell ⟨w.heap.size + 1 + 1 + 1 + 1 + 1 + 1, 0, none⟩ (.string x.key)).setCell ⟨w.heap.size + 1 + 1 + 1, 2, none⟩ (.int .i64 ((k + 1 : Nat) : Int))).heap.size) := Lib.hid (Nat.le_trans (Nat.le_trans HSZv.out fs6.size) fs7.size)
              have FIN : Hid (KeepsFrom w1.heap.size W _ ∧ Kq (fun q => q < w.heap.size) W _ ∧ PkI w w1 e L (pre ++ [z]) ((Wd.setCell ⟨w.heap.size + 1 + 1 + 1 + 1 + 1 + 1, 0, none⟩ (.string x.key)).setCell ⟨w.heap.size + 1 + 1 + 1, 2, none⟩ (.int .i64 ((k + 1 : Nat) : Int)))) := Lib.hid (by
                obtain ⟨kk1, kk2⟩ := pk_keeps H1.out H2.out (show w.heap.size ≤ w1.heap.size by have := K3.out; omega) HFRb.out
                refine ⟨kk1.from _, kk2, HPX.out _ ⟨.slice ra3 rn3 rc3, .slice ba3 bn3 bc3, ?_, ?_, HORD.out, ?_, HSZb.out⟩⟩
                · rw [HLEN.out, HKS.out]
                  exact H1b.out
                · rw [HLEN.out]
                  exact HBXb.out
                · refine H6.out.then_ HFRb.out (fun q hq h => ?_)
                  rcases h with h | h | h | h | h
                  · omega
                  · omega
                  · omega
                  · have := H2.out.newo q h; have := K3.out; omega
                  · have := H2.out.news q h; have := K3.out; omega)
              rw [show ((k + 1 : Nat) : Int) = (k : Int) + 1 from rfl] at FIN
              clear fs6 fs7 H1b HBXb HFRb HSZb H1a HBXa HFRa H1v HATv HFRv HSZv HBXv
              gi_wp2
              exact FIN.out
            refine do_drop (i := 6) rfl (fun K hK => ?_) AllReadyH.nil
            go_simp
            refine (HBOC.out _).mono ?_
            rintro en Wb ⟨vb, rfl, rb, fb⟩
            obtain ⟨ab, cb, rfl, _, _, inb⟩ := rb.form
            have FB := HFA.out.trans fb
            obtain ⟨vn, Wc, hrun, hbx, hfc⟩ := (HBZ.out.keep FB (fun _ h => h.elim)).more (Nat.le_trans HSZz.out FB.size) ab _ cb (oneB x sh) rfl inb.rd (by rw [HPNE.out]; have := HOL.out; have := HPL.out; omega)
            obtain ⟨ba3, bn3, bc3, rfl⟩ := hbx.out.shape
            have hSx := (show Wb.cell? ⟨w.heap.size + 1 + 1 + 1 + 1 + 1 + 1, 0, none⟩ = some (.string ⟨#[]⟩) ∧ Wb.cell? ⟨O, 0, none⟩ = some (.string x.key) ∧ Wb.cell? ⟨O, 1, none⟩ = some (.string x.val) from ⟨fb.cell hSx.1 (fun h => h), fb.cell hSx.2.1 (fun h => h), fb.cell hSx.2.2 (fun h => h)⟩)
            have c5 := fb.cell c5 (fun h => h)
            have HRUN := Lib.hid hrun
            have hnb : ∀ q, Own1 (.slice ba pn bc) q → w.heap.size + 7 ≤ q := fun q hq => by have := HBZ.out.newo q hq; have := K3.out; omega
            have H1u := Lib.hid ((H1z.out.keep FB (fun _ h => h.elim)).keep hfc hnb)
            have HATu := Lib.hid ((HATz.out.keep FB (fun h => h)).keep hfc (fun h => HBZ.out.notPair (.inl h) HATz.out))
            have HFRu := Lib.hid ((HFRz.out.then_ FB (fun _ _ h => h.elim)).then_ hfc (fun q hq h => .inr (.inr (.inr (.inl h)))))
            have HSZu : Hid (w1.heap.size ≤ Wc.heap.size) := Lib.hid (Nat.le_trans (Nat.le_trans HSZz.out FB.size) hfc.size)
            have HBXu : Hid (BX w1.heap.size Wc (.slice ba3 bn3 bc3) (.slice ra3 rn3 rc3) (pairsB e (l ++ [x]) (k + 1)) (nI (startsN e (l ++ [x]) (k + 1)))) := Lib.hid (by rw [HPS.out]; exact hbx)
            obtain ⟨ol, hol⟩ : ∃ ol, (oneB x sh).length = ol := ⟨_, rfl⟩
            rw [hol] at HRUN ⊢
            refine hK.out _ _ hSx ?_
            clear fb rb inb hrun hbx hfc hnb FB hol
            clear hK K
            try simp only [Act.put, List.setIfInBounds_toArray, List.set_cons_zero, List.set_cons_succ]
            refine wpAnyH_ready (rs := [0]) (by kernel_rfl) (by simp) ?_
            refine do_drop (i := 0) rfl (fun K hK => ?_) AllReadyH.nil
            go_simp
            refine hK.out _ _ hSx ?_
            clear hK K
            try simp only [Act.put, List.setIfInBounds_toArray, List.set_cons_zero, List.set_cons_succ]
            refine wpAnyH_ready (rs := [7]) (by kernel_rfl) (by simp) ?_
            refine do_drop (i := 7) rfl (fun K hK => ?_) AllReadyH.nil
            rw [if_pos (by rfl)]
            refine oper_append_run _ _ 27 rfl rfl rfl HRUN.out ?_
            have u6 := H1u.out.b6.cell 0
            have u5 := H1u.out.b5.cell 0
            have y5 := H1u.out.b5.frozen 0
            have uo0 := HATu.out.cell 0
            have uo1 := HATu.out.cell 1
            refine hK.out _ _ ⟨u6, uo0, uo1⟩ ?_
            clear c5
            clear hK K
            try simp only [Act.put, List.setIfInBounds_toArray, List.set_cons_zero, List.set_cons_succ]
            refine wpAnyH_ready (rs := [8]) (by kernel_rfl) (by simp) ?_
            refine do_drop (i := 8) rfl (fun K hK => ?_) AllReadyH.nil
            go_simp
            have fst := fr_one Wc (w.heap.size + 1 + 1 + 1 + 1 + 1) 0 (.slice ba3 bn3 bc3)
            have H1v := Lib.hid (H1u.out.setB (.slice ba3 bn3 bc3))
            have HATv := Lib.hid (HATu.out.keep fst (fun h => by have h : O = w.heap.size + 1 + 1 + 1 + 1 + 1 := h; have := HO.out; have := K3.out; omega))
            have HFRv := Lib.hid (HFRu.out.then_ fst (fun q hq h => .inr (.inl h)))
            have HSZv : Hid (w1.heap.size ≤ (Wc.setCell ⟨w.heap.size + 1 + 1 + 1 + 1 + 1, 0, none⟩ (.slice ba3 bn3 bc3)).heap.size) := Lib.hid (Nat.le_trans HSZu.out fst.size)
            have HBXv := Lib.hid (HBXu.out.keep fst (fun q h => by have h : q = w.heap.size + 1 + 1 + 1 + 1 + 1 := h; have := K3.out; omega))
            obtain ⟨Wd, hWd⟩ : ∃ Wd, Wc.setCell ⟨w.heap.size + 1 + 1 + 1 + 1 + 1, 0, none⟩ (.slice ba3 bn3 bc3) = Wd := ⟨_, rfl⟩
            rw [hWd] at H1v HATv HFRv HSZv HBXv ⊢
            have u6 := H1v.out.b6.cell 0
            have uo0 := HATv.out.cell 0
            have uo1 := HATv.out.cell 1
            refine hK.out _ _ ⟨u6, uo0, uo1⟩ ?_
            clear hK K hSx u5 y5 fst hWd H1u HATu HFRu HSZu HBXu
            refine wpAnyH_done (by kernel_rfl) ?_ _
            have y6 := H1v.out.b6.frozen 0
            have fs6 := fr_one Wd (w.heap.size + 1 + 1 + 1 + 1 + 1 + 1) 0 (.string x.key)
            have H1a := Lib.hid (H1v.out.setAh x.key)
            have HBXa := Lib.hid (HBXv.out.keep fs6 (fun q h => by have h : q = w.heap.size + 1 + 1 + 1 + 1 + 1 + 1 := h; have := K3.out; omega))
            have HFRa := Lib.hid (HFRv.out.then_ fs6 (fun q hq h => .inr (.inr (.inl h))))
            have a4 := H1a.out.b4.cell 0
            have a32 := H1a.out.b3.cell 2
            have y32 := H1a.out.b3.frozen 2
            have fs7 := fr_one (Wd.setCell ⟨w.heap.size + 1 + 1 + 1 + 1 + 1 + 1, 0, none⟩ (.string x.key)) (w.heap.size + 1 + 1 + 1) 2 (.int .i64 ((k + 1 : Nat) : Int))
            have H1b := Lib.hid (H1a.out.setC (k + 1))
            have HBXb := Lib.hid (HBXa.out.keep fs7 (fun q h => by have h : q = w.heap.size + 1 + 1 + 1 := h; have := K3.out; omega))
            have HFRb := Lib.hid (HFRa.out.then_ fs7 (fun q hq h => .inl h))
            have HSZb : Hid (w1.heap.size ≤ ((Wd.setCell ⟨w.heap.size + 1 + 1 + 1 + 1 + 1 + 1, 0, none⟩ (.string x.key)).setCell ⟨w.heap.size + 1 + 1 + 1, 2, none⟩ (.int .i64 ((k + 1 : Nat) : Int))).heap.size) := Lib.hid (Nat.le_trans (Nat.le_trans HSZv.out fs6.size) fs7.size)
            have FIN : Hid (KeepsFrom w1.heap.size W _ ∧ Kq (fun q => q < w.heap.size) W _ ∧ PkI w w1 e L (pre ++ [z]) ((Wd.setCell ⟨w.heap.size + 1 + 1 + 1 + 1 + 1 + 1, 0, none⟩ (.string x.key)).setCell ⟨w.heap.size + 1 + 1 + 1, 2, none⟩ (.int .i64 ((k + 1 : Nat) : Int)))) := Lib.hid (by
              obtain ⟨kk1, kk2⟩ := pk_keeps H1.out H2.out (show w.heap.size ≤ w1.heap.size by have := K3.out; omega) HFRb.out
              refine ⟨kk1.from _, kk2, HPX.out _ ⟨.slice ra3 rn3 rc3, .slice ba3 bn3 bc3, ?_, ?_, HORD.out, ?_, HSZb.out⟩⟩
              · rw [HLEN.out, HKS.out]
                exact H1b.out
              · rw [HLEN.out]
                exact HBXb.out
              · refine H6.out.then_ HFRb.out (fun q hq h => ?_)
                rcases h with h | h | h | h | h
                · omega
                · omega
                · omega
                · have := H2.out.newo q h; have := K3.out; omega
                · have := H2.out.news q h; have := K3.out; omega)
            rw [show ((k + 1 : Nat) : Int) = (k : Int) + 1 from rfl] at FIN
            clear fs6 fs7 H1b HBXb HFRb HSZb H1a HBXa HFRa H1v HATv HFRv HSZv HBXv
            gi_wp2
            exact FIN.out
          refine do_drop (i := 7) rfl (fun K hK => ?_) AllReadyH.nil
          go_simp
          refine hK.out _ _ ⟨m4, m5⟩ ?_
          clear hK K
          try simp only [Act.put, List.setIfInBounds_toArray, List.set_cons_zero, List.set_cons_succ]
          refine wpAnyH_ready (rs := [4]) (by kernel_rfl) (by simp) ?_
          refine do_drop (i := 4) rfl (fun K hK => ?_) AllReadyH.nil
          go_simp
          refine hK.out _ _ ⟨m4, m5⟩ ?_
          clear hK K
          try simp only [Act.put, List.setIfInBounds_toArray, List.set_cons_zero, List.set_cons_succ]
          refine wpAnyH_ready (rs := [8]) (by kernel_rfl) (by simp) ?_
          refine do_drop (i := 8) rfl (fun K hK => ?_) AllReadyH.nil
          rw [if_pos (by rfl)]
          refine oper_append_run _ _ 43 rfl rfl rfl HRUN.out ?_
          refine hK.out _ _ ⟨e4, e5⟩ ?_
          clear hK K hSx
          try simp only [Act.put, List.setIfInBounds_toArray, List.set_cons_zero, List.set_cons_succ]
          have hSx : W3.cell? ⟨w.heap.size + 1 + 1 + 1 + 1, 0, none⟩ = some (.pointer (some ⟨w.heap.size + 1 + 1 + 1, 0, none⟩)) ∧ W3.cell? ⟨w.heap.size + 1 + 1 + 1 + 1 + 1, 0, none⟩ = some (.slice ba pn bc) := ⟨e4, e5⟩
          refine take_drop (i := 9) (v := ?v9_w20) rfl (by kernel_rfl) (by kernel_rfl) (by kernel_rfl) (fun _ _ _ h => h) (Or.inl ⟨by rfl, ?h9_w20⟩) hSx ?r9_w20
          case h9_w20 => (intro wS hSw; obtain ⟨s1, s2⟩ := hSw; go_simp; all_goals (first | (with_reducible rfl) | (rw [if_neg (by omega)])))
          simp only [Act.put, List.setIfInBounds_toArray, List.set_cons_zero, List.set_cons_succ]
          refine take_drop (i := 10) (v := ?v10_w21) rfl (by kernel_rfl) (by kernel_rfl) (by kernel_rfl) (fun _ _ _ h => h) (Or.inl ⟨by rfl, ?h10_w21⟩) hSx ?r10_w21
          case h10_w21 => (intro wS hSw; obtain ⟨s1, s2⟩ := hSw; go_simp; all_goals (first | (with_reducible rfl) | (rw [if_neg (by omega)])))
          simp only [Act.put, List.setIfInBounds_toArray, List.set_cons_zero, List.set_cons_succ]
          refine wpAnyH_ready (rs := [11]) (by kernel_rfl) (by simp) ?_
          refine do_drop (i := 11) rfl (fun K hK => ?_) AllReadyH.nil
          go_simp
          refine hK.out _ _ ⟨g4, g5⟩ ?_
          clear hK K hSx
          refine wpAnyH_done (by kernel_rfl) ?_ _
          obtain ⟨W4, hW4⟩ : ∃ W4, W3.setCell ⟨w.heap.size + 1 + 1 + 1, 1, none⟩ (.slice ra3 rn3 rc3) = W4 := ⟨_, rfl⟩
          rw [hW4] at H1y HBX HATy HFRy HSZy ⊢
          have c6 := H1y.out.b6.cell 0
          have z6 := H1y.out.b6.frozen 0
          have fst := fr_one W4 (w.heap.size + 1 + 1 + 1 + 1 + 1 + 1) 0 (.string ⟨#[]⟩)
          have H1z : Hid (PkS w e (.slice ra3 rn3 rc3) (.slice ba pn bc) k ⟨#[]⟩ (W4.setCell ⟨w.heap.size + 1 + 1 + 1 + 1 + 1 + 1, 0, none⟩ (.string ⟨#[]⟩))) := Lib.hid (H1y.out.setAh ⟨#[]⟩)
          have HBZ := Lib.hid (HBX.out.keep fst (fun q h => by have h : q = w.heap.size + 1 + 1 + 1 + 1 + 1 + 1 := h; have := K3.out; omega))
          have HATz := Lib.hid (HATy.out.keep fst (fun h => by have h : O = w.heap.size + 1 + 1 + 1 + 1 + 1 + 1 := h; have := HO.out; have := K3.out; omega))
          have HFRz := Lib.hid (HFRy.out.then_ fst (fun q hq h => .inr (.inr (.inl h))))
          have HSZz : Hid (w1.heap.size ≤ (W4.setCell ⟨w.heap.size + 1 + 1 + 1 + 1 + 1 + 1, 0, none⟩ (.string ⟨#[]⟩)).heap.size) := Lib.hid (Nat.le_trans HSZy.out fst.size)
          clear fst hW4 e4 e31 e5 ez g4 g5 m4 m5 m31 c31 HRUN H1y HBX HATy HFRy HSZy
          gi_wp2
          obtain ⟨W5, hW5⟩ : ∃ W5, W4.setCell ⟨w.heap.size + 1 + 1 + 1 + 1 + 1 + 1, 0, none⟩ (.string ⟨#[]⟩) = W5 := ⟨_, rfl⟩
          rw [hW5] at H1z HBZ HATz HFRz HSZz ⊢
          clear hW5 c6 z6
          have HSHX : Hid (∀ w, Calls Tryz.prog 121 #[.string ⟨#[]⟩, .string x.key] w (PlainRet (.int .i64 (sh : Int)) w)) := Lib.hid fun w => by
            have q := bshared_c ⟨#[]⟩ x.key (Nat.zero_le _) (Nat.le_trans HXS.out.1 (by unfold maxLen; omega)) w
            have q2 : shL (bs ⟨#[]⟩) (bs x.key) = sh := by rw [HSHE.out, if_pos (by rw [hqm]; exact hq0)]; exact shL_nil _
            rw [q2] at q
            exact q
          have c6 := H1z.out.b6.cell 0
          have c5 := H1z.out.b5.cell 0
          have o0 := HATz.out.cell 0
          have o1 := HATz.out.cell 1
          have HBOC : Hid (∀ w, Calls Tryz.prog 144 #[.agg #[.string x.key, .string x.val], .int .i64 (sh : Int)] w (NewRow (oneB x sh) w)) := Lib.hid fun w => bytesOf_c x sh w HSHL.out (Nat.le_trans HXS.out.1 (by omega)) (Nat.le_trans HXS.out.2 (by omega))
          have HOL : Hid ((oneB x sh).length ≤ 300027) := Lib.hid (by
            have := HSHL.out
            have := HXS.out
            have q1 := enc_len9 (show sh < 9223372036854775808 by omega)
            have q2 := enc_len9 (show x.key.size - sh < 9223372036854775808 by omega)
            have q3 := enc_len9 (show x.val.size < 9223372036854775808 by omega)
            unfold oneB
            simp only [List.length_append, List.length_drop, bs_length]
            omega)
          gi_wp2
          refine wpIn_region_round (S := fun w' => w'.cell? ⟨w.heap.size + 1 + 1 + 1 + 1 + 1 + 1, 0, none⟩ = some (.string ⟨#[]⟩) ∧ w'.cell? ⟨O, 0, none⟩ = some (.string x.key) ∧ w'.cell? ⟨O, 1, none⟩ = some (.string x.val)) (by kernel_rfl) (by kernel_rfl) (fun h => by obtain ⟨_, _, h⟩ := h; exact h) ⟨c6, o0, o1⟩ (fun hSx => ?_)
          refine take_drop (i := 1) (v := ?v1_w22) rfl (by kernel_rfl) (by kernel_rfl) (by kernel_rfl) (fun _ _ _ h => h) (Or.inl ⟨by rfl, ?h1_w22⟩) hSx ?r1_w22
          case h1_w22 => (intro wS hSw; obtain ⟨s1, s2, s3⟩ := hSw; go_simp; all_goals (first | (with_reducible rfl) | (rw [if_neg (by omega)])))
          simp only [Act.put, List.setIfInBounds_toArray, List.set_cons_zero, List.set_cons_succ]
          refine take_drop (i := 2) (v := ?v2_w23) rfl (by kernel_rfl) (by kernel_rfl) (by kernel_rfl) (fun _ _ _ h => h) (Or.inl ⟨by rfl, ?h2_w23⟩) hSx ?r2_w23
          case h2_w23 => (intro wS hSw; obtain ⟨s1, s2, s3⟩ := hSw; go_simp; all_goals (first | (with_reducible rfl) | (rw [if_neg (by omega)])))
          simp only [Act.put, List.setIfInBounds_toArray, List.set_cons_zero, List.set_cons_succ]
          refine take_drop (i := 3) (v := ?v3_w24) rfl (by kernel_rfl) (by kernel_rfl) (by kernel_rfl) (fun _ _ _ h => h) (Or.inl ⟨by rfl, ?h3_w24⟩) hSx ?r3_w24
          case h3_w24 => (intro wS hSw; obtain ⟨s1, s2, s3⟩ := hSw; go_simp; all_goals (first | (with_reducible rfl) | (rw [if_neg (by omega)])))
          simp only [Act.put, List.setIfInBounds_toArray, List.set_cons_zero, List.set_cons_succ]
          refine take_drop (i := 4) (v := ?v4_w25) rfl (by kernel_rfl) (by kernel_rfl) (by kernel_rfl) (fun _ _ _ h => h) (Or.inl ⟨by rfl, ?h4_w25⟩) hSx ?r4_w25
          case h4_w25 => (intro wS hSw; obtain ⟨s1, s2, s3⟩ := hSw; go_simp; all_goals (first | (with_reducible rfl) | (rw [if_neg (by omega)])))
          simp only [Act.put, List.setIfInBounds_toArray, List.set_cons_zero, List.set_cons_succ]
          have HFB : Hid (Fr No W5 W5.drew) := Lib.hid ((Fr.refl No W5).drew)
          refine wpAnyH_ready (rs := [0, 5]) (by kernel_rfl) (by simp) ?_
          refine do_drop (i := 0) rfl (fun K hK => ?_) ?_
          · go_simp
            refine hK.out _ _ hSx ?_
            clear hK K
            try simp only [Act.put, List.setIfInBounds_toArray, List.set_cons_zero, List.set_cons_succ]
            refine wpAnyH_ready (rs := [5]) (by kernel_rfl) (by simp) ?_
            refine do_drop (i := 5) rfl (fun K hK => ?_) AllReadyH.nil
            go_simp
            refine (HSHX.out _).mono ?_
            rintro en Wa ⟨rfl, fa⟩
            have hSx := (show Wa.cell? ⟨w.heap.size + 1 + 1 + 1 + 1 + 1 + 1, 0, none⟩ = some (.string ⟨#[]⟩) ∧ Wa.cell? ⟨O, 0, none⟩ = some (.string x.key) ∧ Wa.cell? ⟨O, 1, none⟩ = some (.string x.val) from ⟨fa.cell hSx.1 (fun h => h), fa.cell hSx.2.1 (fun h => h), fa.cell hSx.2.2 (fun h => h)⟩)
            have c5 := fa.cell c5 (fun h => h)
            have HFA := Lib.hid (HFB.out.trans fa)
            refine hK.out _ _ hSx ?_
            clear fa
            clear hK K
            try simp only [Act.put, List.setIfInBounds_toArray, List.set_cons_zero, List.set_cons_succ]
            refine wpAnyH_ready (rs := [6]) (by kernel_rfl) (by simp) ?_
            refine do_drop (i := 6) rfl (fun K hK => ?_) AllReadyH.nil
            go_simp
            refine (HBOC.out _).mono ?_
            rintro en Wb ⟨vb, rfl, rb, fb⟩
            obtain ⟨ab, cb, rfl, _, _, inb⟩ := rb.form
            have FB := HFA.out.trans fb
            obtain ⟨vn, Wc, hrun, hbx, hfc⟩ := (HBZ.out.keep FB (fun _ h => h.elim)).more (Nat.le_trans HSZz.out FB.size) ab _ cb (oneB x sh) rfl inb.rd (by rw [HPNE.out]; have := HOL.out; have := HPL.out; omega)
            obtain ⟨ba3, bn3, bc3, rfl⟩ := hbx.out.shape
            have hSx := (show Wb.cell? ⟨w.heap.size + 1 + 1 + 1 + 1 + 1 + 1, 0, none⟩ = some (.string ⟨#[]⟩) ∧ Wb.cell? ⟨O, 0, none⟩ = some (.string x.key) ∧ Wb.cell? ⟨O, 1, none⟩ = some (.string x.val) from ⟨fb.cell hSx.1 (fun h => h), fb.cell hSx.2.1 (fun h => h), fb.cell hSx.2.2 (fun h => h)⟩)
            have c5 := fb.cell c5 (fun h => h)
            have HRUN := Lib.hid hrun
            have hnb : ∀ q, Own1 (.slice ba pn bc) q → w.heap.size + 7 ≤ q := fun q hq => by have := HBZ.out.newo q hq; have := K3.out; omega
            have H1u := Lib.hid ((H1z.out.keep FB (fun _ h => h.elim)).keep hfc hnb)
            have HATu := Lib.hid ((HATz.out.keep FB (fun h => h)).keep hfc (fun h => HBZ.out.notPair (.inl h) HATz.out))
            have HFRu := Lib.hid ((HFRz.out.then_ FB (fun _ _ h => h.elim)).then_ hfc (fun q hq h => .inr (.inr (.inr (.inl h)))))
            have HSZu : Hid (w1.heap.size ≤ Wc.heap.size) := Lib.hid (Nat.le_trans (Nat.le_trans HSZz.out FB.size) hfc.size)
            have HBXu : Hid (BX w1.heap.size Wc (.slice ba3 bn3 bc3) (.slice ra3 rn3 rc3) (pairsB e (l ++ [x]) (k + 1)) (nI (startsN e (l ++ [x]) (k + 1)))) := Lib.hid (by rw [HPS.out]; exact hbx)
            obtain ⟨ol, hol⟩ : ∃ ol, (oneB x sh).length = ol := ⟨_, rfl⟩
            rw [hol] at HRUN ⊢
            refine hK.out _ _ hSx ?_
            clear fb rb inb hrun hbx hfc hnb FB hol
            clear hK K
            try simp only [Act.put, List.setIfInBounds_toArray, List.set_cons_zero, List.set_cons_succ]
            refine wpAnyH_ready (rs := [7]) (by kernel_rfl) (by simp) ?_
            refine do_drop (i := 7) rfl (fun K hK => ?_) AllReadyH.nil
            rw [if_pos (by rfl)]
            refine oper_append_run _ _ 27 rfl rfl rfl HRUN.out ?_
            have u6 := H1u.out.b6.cell 0
            have u5 := H1u.out.b5.cell 0
            have y5 := H1u.out.b5.frozen 0
            have uo0 := HATu.out.cell 0
            have uo1 := HATu.out.cell 1
            refine hK.out _ _ ⟨u6, uo0, uo1⟩ ?_
            clear c5
            clear hK K
            try simp only [Act.put, List.setIfInBounds_toArray, List.set_cons_zero, List.set_cons_succ]
            refine wpAnyH_ready (rs := [8]) (by kernel_rfl) (by simp) ?_
            refine do_drop (i := 8) rfl (fun K hK => ?_) AllReadyH.nil
            go_simp
            have fst := fr_one Wc (w.heap.size + 1 + 1 + 1 + 1 + 1) 0 (.slice ba3 bn3 bc3)
            have H1v := Lib.hid (H1u.out.setB (.slice ba3 bn3 bc3))
            have HATv := Lib.hid (HATu.out.keep fst (fun h => by have h : O = w.heap.size + 1 + 1 + 1 + 1 + 1 := h; have := HO.out; have := K3.out; omega))
            have HFRv := Lib.hid (HFRu.out.then_ fst (fun q hq h => .inr (.inl h)))
            have HSZv : Hid (w1.heap.size ≤ (Wc.setCell ⟨w.heap.size + 1 + 1 + 1 + 1 + 1, 0, none⟩ (.slice ba3 bn3 bc3)).heap.size) := Lib.hid (Nat.le_trans HSZu.out fst.size)
            have HBXv := Lib.hid (HBXu.out.keep fst (fun q h => by have h : q = w.heap.size + 1 + 1 + 1 + 1 + 1 := h; have := K3.out; omega))
            obtain ⟨Wd, hWd⟩ : ∃ Wd, Wc.setCell ⟨w.heap.size + 1 + 1 + 1 + 1 + 1, 0, none⟩ (.slice ba3 bn3 bc3) = Wd := ⟨_, rfl⟩
            rw [hWd] at H1v HATv HFRv HSZv HBXv ⊢
            have u6 := H1v.out.b6.cell 0
            have uo0 := HATv.out.cell 0
            have uo1 := HATv.out.cell 1
            refine hK.out _ _ ⟨u6, uo0, uo1⟩ ?_
            clear hK K hSx u5 y5 fst hWd H1u HATu HFRu HSZu HBXu
            refine wpAnyH_done (by kernel_rfl) ?_ _
            have y6 := H1v.out.b6.frozen 0
            have fs6 := fr_one Wd (w.heap.size + 1 + 1 + 1 + 1 + 1 + 1) 0 (.string x.key)
            have H1a := Lib.hid (H1v.out.setAh x.key)
            have HBXa := Lib.hid (HBXv.out.keep fs6 (fun q h => by have h : q = w.heap.size + 1 + 1 + 1 + 1 + 1 + 1 := h; have := K3.out; omega))
            have HFRa := Lib.hid (HFRv.out.then_ fs6 (fun q hq h => .inr (.inr (.inl h))))
            have a4 := H1a.out.b4.cell 0
            have a32 := H1a.out.b3.cell 2
            have y32 := H1a.out.b3.frozen 2
            have fs7 := fr_one (Wd.setCell ⟨w.heap.size + 1 + 1 + 1 + 1 + 1 + 1, 0, none⟩ (.string x.key)) (w.heap.size + 1 + 1 + 1) 2 (.int .i64 ((k + 1 : Nat) : Int))
            have H1b := Lib.hid (H1a.out.setC (k + 1))
            have HBXb := Lib.hid (HBXa.out.keep fs7 (fun q h => by have h : q = w.heap.size + 1 + 1 + 1 := h; have := K3.out; omega))
            have HFRb := Lib.hid (HFRa.out.then_ fs7 (fun q hq h => .inl h))
            have HSZb : Hid (w1.heap.size ≤ ((Wd.setCell ⟨w.heap.size + 1 + 1 + 1 + 1 + 1 + 1, 0, none⟩ (.string x.key)).setCell ⟨w.heap.size + 1 + 1 + 1, 2, none⟩ (.int .i64 ((k + 1 : Nat) : Int))).heap.size) := Lib.hid (Nat.le_trans (Nat.le_trans HSZv.out fs6.size) fs7.size)
            have FIN : Hid (KeepsFrom w1.heap.size W _ ∧ Kq (fun q => q < w.heap.size) W _ ∧ PkI w w1 e L (pre ++ [z]) ((Wd.setCell ⟨w.heap.size + 1 + 1 + 1 + 1 + 1 + 1, 0, none⟩ (.string x.key)).setCell ⟨w.heap.size + 1 + 1 + 1, 2, none⟩ (.int .i64 ((k + 1 : Nat) : Int)))) := Lib.hid (by
              obtain ⟨kk1, kk2⟩ := pk_keeps H1.out H2.out (show w.heap.size ≤ w1.heap.size by have := K3.out; omega) HFRb.out
              refine ⟨kk1.from _, kk2, HPX.out _ ⟨.slice ra3 rn3 rc3, .slice ba3 bn3 bc3, ?_, ?_, HORD.out, ?_, HSZb.out⟩⟩
              · rw [HLEN.out, HKS.out]
                exact H1b.out
              · rw [HLEN.out]
                exact HBXb.out
              · refine H6.out.then_ HFRb.out (fun q hq h => ?_)
                rcases h with h | h | h | h | h
                · omega
                · omega
                · omega
                · have := H2.out.newo q h; have := K3.out; omega
                · have := H2.out.news q h; have := K3.out; omega)
            rw [show ((k + 1 : Nat) : Int) = (k : Int) + 1 from rfl] at FIN
            clear fs6 fs7 H1b HBXb HFRb HSZb H1a HBXa HFRa H1v HATv HFRv HSZv HBXv
            gi_wp2
            exact FIN.out
          refine do_drop (i := 5) rfl (fun K hK => ?_) AllReadyH.nil
          go_simp
          refine (HSHX.out _).mono ?_
          rintro en Wa ⟨rfl, fa⟩
          have hSx := (show Wa.cell? ⟨w.heap.size + 1 + 1 + 1 + 1 + 1 + 1, 0, none⟩ = some (.string ⟨#[]⟩) ∧ Wa.cell? ⟨O, 0, none⟩ = some (.string x.key) ∧ Wa.cell? ⟨O, 1, none⟩ = some (.string x.val) from ⟨fa.cell hSx.1 (fun h => h), fa.cell hSx.2.1 (fun h => h), fa.cell hSx.2.2 (fun h => h)⟩)
          have c5 := fa.cell c5 (fun h => h)
          have HFA := Lib.hid (HFB.out.trans fa)
          refine hK.out _ _ hSx ?_
          clear fa
          clear hK K
          try simp only [Act.put, List.setIfInBounds_toArray, List.set_cons_zero, List.set_cons_succ]
          refine wpAnyH_ready (rs := [0, 6]) (by kernel_rfl) (by simp) ?_
          refine do_drop (i := 0) rfl (fun K hK => ?_) ?_
          · go_simp
            refine hK.out _ _ hSx ?_
            clear hK K
            try simp only [Act.put, List.setIfInBounds_toArray, List.set_cons_zero, List.set_cons_succ]
            refine wpAnyH_ready (rs := [6]) (by kernel_rfl) (by simp) ?_
            refine do_drop (i := 6) rfl (fun K hK => ?_) AllReadyH.nil
            go_simp
            refine (HBOC.out _).mono ?_
            rintro en Wb ⟨vb, rfl, rb, fb⟩
            obtain ⟨ab, cb, rfl, _, _, inb⟩ := rb.form
            have FB := HFA.out.trans fb
            obtain ⟨vn, Wc, hrun, hbx, hfc⟩ := (HBZ.out.keep FB (fun _ h => h.elim)).more (Nat.le_trans HSZz.out FB.size) ab _ cb (oneB x sh) rfl inb.rd (by rw [HPNE.out]; have := HOL.out; have := HPL.out; omega)
            obtain ⟨ba3, bn3, bc3, rfl⟩ := hbx.out.shape
            have hSx := (show Wb.cell? ⟨w.heap.size + 1 + 1 + 1 + 1 + 1 + 1, 0, none⟩ = some (.string ⟨#[]⟩) ∧ Wb.cell? ⟨O, 0, none⟩ = some (.string x.key) ∧ Wb.cell? ⟨O, 1, none⟩ = some (.string x.val) from ⟨fb.cell hSx.1 (fun h => h), fb.cell hSx.2.1 (fun h => h), fb.cell hSx.2.2 (fun h => h)⟩)
            have c5 := fb.cell c5 (fun h => h)
            have HRUN := Lib.hid hrun
            have hnb : ∀ q, Own1 (.slice ba pn bc) q → w.heap.size + 7 ≤ q := fun q hq => by have := HBZ.out.newo q hq; have := K3.out; omega
            have H1u := Lib.hid ((H1z.out.keep FB (fun _ h => h.elim)).keep hfc hnb)
            have HATu := Lib.hid ((HATz.out.keep FB (fun h => h)).keep hfc (fun h => HBZ.out.notPair (.inl h) HATz.out))
            have HFRu := Lib.hid ((HFRz.out.then_ FB (fun _ _ h => h.elim)).then_ hfc (fun q hq h => .inr (.inr (.inr (.inl h)))))
            have HSZu : Hid (w1.heap.size ≤ Wc.heap.size) := Lib.hid (Nat.le_trans (Nat.le_trans HSZz.out FB.size) hfc.size)
            have HBXu : Hid (BX w1.heap.size Wc (.slice ba3 bn3 bc3) (.slice ra3 rn3 rc3) (pairsB e (l ++ [x]) (k + 1)) (nI (startsN e (l ++ [x]) (k + 1)))) := Lib.hid (by rw [HPS.out]; exact hbx)
            obtain ⟨ol, hol⟩ : ∃ ol, (oneB x sh).length = ol := ⟨_, rfl⟩
            rw [hol] at HRUN ⊢
            refine hK.out _ _ hSx ?_
            clear fb rb inb hrun hbx hfc hnb FB hol
            clear hK K
            try simp only [Act.put, List.setIfInBounds_toArray, List.set_cons_zero, List.set_cons_succ]
            refine wpAnyH_ready (rs := [7]) (by kernel_rfl) (by simp) ?_
            refine do_drop (i := 7) rfl (fun K hK => ?_) AllReadyH.nil
            rw [if_pos (by rfl)]
            refine oper_append_run _ _ 27 rfl rfl rfl HRUN.out ?_
            have u6 := H1u.out.b6.cell 0
            have u5 := H1u.out.b5.cell 0
            have y5 := H1u.out.b5.frozen 0
            have uo0 := HATu.out.cell 0
            have uo1 := HATu.out.cell 1
            refine hK.out _ _ ⟨u6, uo0, uo1⟩ ?_
            clear c5
            clear hK K
            try simp only [Act.put, List.setIfInBounds_toArray, List.set_cons_zero, List.set_cons_succ]
            refine wpAnyH_ready (rs := [8]) (by kernel_rfl) (by simp) ?_
            refine do_drop (i := 8) rfl (fun K hK => ?_) AllReadyH.nil
            go_simp
            have fst := fr_one Wc (w.heap.size + 1 + 1 + 1 + 1 + 1) 0 (.slice ba3 bn3 bc3)
            have H1v := Lib.hid (H1u.out.setB (.slice ba3 bn3 bc3))
            have HATv := Lib.hid (HATu.out.keep fst (fun h => by have h : O = w.heap.size + 1 + 1 + 1 + 1 + 1 := h; have := HO.out; have := K3.out; omega))
            have HFRv := Lib.hid (HFRu.out.then_ fst (fun q hq h => .inr (.inl h)))
            have HSZv : Hid (w1.heap.size ≤ (Wc.setCell ⟨w.heap.size + 1 + 1 + 1 + 1 + 1, 0, none⟩ (.slice ba3 bn3 bc3)).heap.size) := Lib.hid (Nat.le_trans HSZu.out fst.size)
            have HBXv := Lib.hid (HBXu.out.keep fst (fun q h => by have h : q = w.heap.size + 1 + 1 + 1 + 1 + 1 := h; have := K3.out; omega))
            obtain ⟨Wd, hWd⟩ : ∃ Wd, Wc.setCell ⟨w.heap.size + 1 + 1 + 1 + 1 + 1, 0, none⟩ (.slice ba3 bn3 bc3) = Wd := ⟨_, rfl⟩
            rw [hWd] at H1v HATv HFRv HSZv HBXv ⊢
            have u6 := H1v.out.b6.cell 0
            have uo0 := HATv.out.cell 0
            have uo1 := HATv.out.cell 1
            refine hK.out _ _ ⟨u6, uo0, uo1⟩ ?_
            clear hK K hSx u5 y5 fst hWd H1u HATu HFRu HSZu HBXu
            refine wpAnyH_done (by kernel_rfl) ?_ _
            have y6 := H1v.out.b6.frozen 0
            have fs6 := fr_one Wd (w.heap.size + 1 + 1 + 1 + 1 + 1 + 1) 0 (.string x.key)
            have H1a := Lib.hid (H1v.out.setAh x.key)
            have HBXa := Lib.hid (HBXv.out.keep fs6 (fun q h => by have h : q = w.heap.size + 1 + 1 + 1 + 1 + 1 + 1 := h; have := K3.out; omega))
            have HFRa := Lib.hid (HFRv.out.then_ fs6 (fun q hq h => .inr (.inr (.inl h))))
            have a4 := H1a.out.b4.cell 0
            have a32 := H1a.out.b3.cell 2
            have y32 := H1a.out.b3.frozen 2
            have fs7 := fr_one (Wd.setCell ⟨w.heap.size + 1 + 1 + 1 + 1 + 1 + 1, 0, none⟩ (.string x.key)) (w.heap.size + 1 + 1 + 1) 2 (.int .i64 ((k + 1 : Nat) : Int))
            have H1b := Lib.hid (H1a.out.setC (k + 1))
            have HBXb := Lib.hid (HBXa.out.keep fs7 (fun q h => by have h : q = w.heap.size + 1 + 1 + 1 := h; have := K3.out; omega))
            have HFRb := Lib.hid (HFRa.out.then_ fs7 (fun q hq h => .inl h))
            have HSZb : Hid (w1.heap.size ≤ ((Wd.setCell ⟨w.heap.size + 1 + 1 + 1 + 1 + 1 + 1, 0, none⟩ (.string x.key)).setCell ⟨w.heap.size + 1 + 1 + 1, 2, none⟩ (.int .i64 ((k + 1 : Nat) : Int))).heap.size) := Lib.hid (Nat.le_trans (Nat.le_trans HSZv.out fs6.size) fs7.size)
            have FIN : Hid (KeepsFrom w1.heap.size W _ ∧ Kq (fun q => q < w.heap.size) W _ ∧ PkI w w1 e L (pre ++ [z]) ((Wd.setCell ⟨w.heap.size + 1 + 1 + 1 + 1 + 1 + 1, 0, none⟩ (.string x.key)).setCell ⟨w.heap.size + 1 + 1 + 1, 2, none⟩ (.int .i64 ((k + 1 : Nat) : Int)))) := Lib.hid (by
              obtain ⟨kk1, kk2⟩ := pk_keeps H1.out H2.out (show w.heap.size ≤ w1.heap.size by have := K3.out; omega) HFRb.out
              refine ⟨kk1.from _, kk2, HPX.out _ ⟨.slice ra3 rn3 rc3, .slice ba3 bn3 bc3, ?_, ?_, HORD.out, ?_, HSZb.out⟩⟩
              · rw [HLEN.out, HKS.out]
                exact H1b.out
              · rw [HLEN.out]
                exact HBXb.out
              · refine H6.out.then_ HFRb.out (fun q hq h => ?_)
                rcases h with h | h | h | h | h
                · omega
                · omega
                · omega
                · have := H2.out.newo q h; have := K3.out; omega
                · have := H2.out.news q h; have := K3.out; omega)
            rw [show ((k + 1 : Nat) : Int) = (k : Int) + 1 from rfl] at FIN
            clear fs6 fs7 H1b HBXb HFRb HSZb H1a HBXa HFRa H1v HATv HFRv HSZv HBXv
            gi_wp2
            exact FIN.out
          refine do_drop (i := 6) rfl (fun K hK => ?_) AllReadyH.nil
          go_simp
          refine (HBOC.out _).mono ?_
          rintro en Wb ⟨vb, rfl, rb, fb⟩
          obtain ⟨ab, cb, rfl, _, _, inb⟩ := rb.form
          have FB := HFA.out.trans fb
          obtain ⟨vn, Wc, hrun, hbx, hfc⟩ := (HBZ.out.keep FB (fun _ h => h.elim)).more (Nat.le_trans HSZz.out FB.size) ab _ cb (oneB x sh) rfl inb.rd (by rw [HPNE.out]; have := HOL.out; have := HPL.out; omega)
          obtain ⟨ba3, bn3, bc3, rfl⟩ := hbx.out.shape
          have hSx := (show Wb.cell? ⟨w.heap.size + 1 + 1 + 1 + 1 + 1 + 1, 0, none⟩ = some (.string ⟨#[]⟩) ∧ Wb.cell? ⟨O, 0, none⟩ = some (.string x.key) ∧ Wb.cell? ⟨O, 1, none⟩ = some (.string x.val) from ⟨fb.cell hSx.1 (fun h => h), fb.cell hSx.2.1 (fun h => h), fb.cell hSx.2.2 (fun h => h)⟩)
          have c5 := fb.cell c5 (fun h => h)
          have HRUN := Lib.hid hrun
          have hnb : ∀ q, Own1 (.slice ba pn bc) q → w.heap.size + 7 ≤ q := fun q hq => by have := HBZ.out.newo q hq; have := K3.out; omega
          have H1u := Lib.hid ((H1z.out.keep FB (fun _ h => h.elim)).keep hfc hnb)
          have HATu := Lib.hid ((HATz.out.keep FB (fun h => h)).keep hfc (fun h => HBZ.out.notPair (.inl h) HATz.out))
          have HFRu := Lib.hid ((HFRz.out.then_ FB (fun _ _ h => h.elim)).then_ hfc (fun q hq h => .inr (.inr (.inr (.inl h)))))
          have HSZu : Hid (w1.heap.size ≤ Wc.heap.size) := Lib.hid (Nat.le_trans (Nat.le_trans HSZz.out FB.size) hfc.size)
          have HBXu : Hid (BX w1.heap.size Wc (.slice ba3 bn3 bc3) (.slice ra3 rn3 rc3) (pairsB e (l ++ [x]) (k + 1)) (nI (startsN e (l ++ [x]) (k + 1)))) := Lib.hid (by rw [HPS.out]; exact hbx)
          obtain ⟨ol, hol⟩ : ∃ ol, (oneB x sh).length = ol := ⟨_, rfl⟩
          rw [hol] at HRUN ⊢
          refine hK.out _ _ hSx ?_
          clear fb rb inb hrun hbx hfc hnb FB hol
          clear hK K
          try simp only [Act.put, List.setIfInBounds_toArray, List.set_cons_zero, List.set_cons_succ]
          refine wpAnyH_ready (rs := [0]) (by kernel_rfl) (by simp) ?_
          refine do_drop (i := 0) rfl (fun K hK => ?_) AllReadyH.nil
          go_simp
          refine hK.out _ _ hSx ?_
          clear hK K
          try simp only [Act.put, List.setIfInBounds_toArray, List.set_cons_zero, List.set_cons_succ]
          refine wpAnyH_ready (rs := [7]) (by kernel_rfl) (by simp) ?_
          refine do_drop (i := 7) rfl (fun K hK => ?_) AllReadyH.nil
          rw [if_pos (by rfl)]
          refine oper_append_run _ _ 27 rfl rfl rfl HRUN.out ?_
          have u6 := H1u.out.b6.cell 0
          have u5 := H1u.out.b5.cell 0
          have y5 := H1u.out.b5.frozen 0
          have uo0 := HATu.out.cell 0
          have uo1 := HATu.out.cell 1
          refine hK.out _ _ ⟨u6, uo0, uo1⟩ ?_
          clear c5
          clear hK K
          try simp only [Act.put, List.setIfInBounds_toArray, List.set_cons_zero, List.set_cons_succ]
          refine wpAnyH_ready (rs := [8]) (by kernel_rfl) (by simp) ?_
          refine do_drop (i := 8) rfl (fun K hK => ?_) AllReadyH.nil
          go_simp
          have fst := fr_one Wc (w.heap.size + 1 + 1 + 1 + 1 + 1) 0 (.slice ba3 bn3 bc3)
          have H1v := Lib.hid (H1u.out.setB (.slice ba3 bn3 bc3))
          have HATv := Lib.hid (HATu.out.keep fst (fun h => by have h : O = w.heap.size + 1 + 1 + 1 + 1 + 1 := h; have := HO.out; have := K3.out; omega))
          have HFRv := Lib.hid (HFRu.out.then_ fst (fun q hq h => .inr (.inl h)))
          have HSZv : Hid (w1.heap.size ≤ (Wc.setCell ⟨w.heap.size + 1 + 1 + 1 + 1 + 1, 0, none⟩ (.slice ba3 bn3 bc3)).heap.size) := Lib.hid (Nat.le_trans HSZu.out fst.size)
          have HBXv := Lib.hid (HBXu.out.keep fst (fun q h => by have h : q = w.heap.size + 1 + 1 + 1 + 1 + 1 := h; have := K3.out; omega))
          obtain ⟨Wd, hWd⟩ : ∃ Wd, Wc.setCell ⟨w.heap.size + 1 + 1 + 1 + 1 + 1, 0, none⟩ (.slice ba3 bn3 bc3) = Wd := ⟨_, rfl⟩
          rw [hWd] at H1v HATv HFRv HSZv HBXv ⊢
          have u6 := H1v.out.b6.cell 0
          have uo0 := HATv.out.cell 0
          have uo1 := HATv.out.cell 1
          refine hK.out _ _ ⟨u6, uo0, uo1⟩ ?_
          clear hK K hSx u5 y5 fst hWd H1u HATu HFRu HSZu HBXu
          refine wpAnyH_done (by kernel_rfl) ?_ _
          have y6 := H1v.out.b6.frozen 0
          have fs6 := fr_one Wd (w.heap.size + 1 + 1 + 1 + 1 + 1 + 1) 0 (.string x.key)
          have H1a := Lib.hid (H1v.out.setAh x.key)
          have HBXa := Lib.hid (HBXv.out.keep fs6 (fun q h => by have h : q = w.heap.size + 1 + 1 + 1 + 1 + 1 + 1 := h; have := K3.out; omega))
          have HFRa := Lib.hid (HFRv.out.then_ fs6 (fun q hq h => .inr (.inr (.inl h))))
          have a4 := H1a.out.b4.cell 0
          have a32 := H1a.out.b3.cell 2
          have y32 := H1a.out.b3.frozen 2
          have fs7 := fr_one (Wd.setCell ⟨w.heap.size + 1 + 1 + 1 + 1 + 1 + 1, 0, none⟩ (.string x.key)) (w.heap.size + 1 + 1 + 1) 2 (.int .i64 ((k + 1 : Nat) : Int))
          have H1b := Lib.hid (H1a.out.setC (k + 1))
          have HBXb := Lib.hid (HBXa.out.keep fs7 (fun q h => by have h : q = w.heap.size + 1 + 1 + 1 := h; have := K3.out; omega))
          have HFRb := Lib.hid (HFRa.out.then_ fs7 (fun q hq h => .inl h))
          have HSZb : Hid (w1.heap.size ≤ ((Wd.setCell ⟨w.heap.size + 1 + 1 + 1 + 1 + 1 + 1, 0, none⟩ (.string x.key)).setCell ⟨w.heap.size + 1 + 1 + 1, 2, none⟩ (.int .i64 ((k + 1 : Nat) : Int))).heap.size) := Lib.hid (Nat.le_trans (Nat.le_trans HSZv.out fs6.size) fs7.size)
          have FIN : Hid (KeepsFrom w1.heap.size W _ ∧ Kq (fun q => q < w.heap.size) W _ ∧ PkI w w1 e L (pre ++ [z]) ((Wd.setCell ⟨w.heap.size + 1 + 1 + 1 + 1 + 1 + 1, 0, none⟩ (.string x.key)).setCell ⟨w.heap.size + 1 + 1 + 1, 2, none⟩ (.int .i64 ((k + 1 : Nat) : Int)))) := Lib.hid (by
            obtain ⟨kk1, kk2⟩ := pk_keeps H1.out H2.out (show w.heap.size ≤ w1.heap.size by have := K3.out; omega) HFRb.out
            refine ⟨kk1.from _, kk2, HPX.out _ ⟨.slice ra3 rn3 rc3, .slice ba3 bn3 bc3, ?_, ?_, HORD.out, ?_, HSZb.out⟩⟩
            · rw [HLEN.out, HKS.out]
              exact H1b.out
            · rw [HLEN.out]
              exact HBXb.out
            · refine H6.out.then_ HFRb.out (fun q hq h => ?_)
              rcases h with h | h | h | h | h
              · omega
              · omega
              · omega
              · have := H2.out.newo q h; have := K3.out; omega
              · have := H2.out.news q h; have := K3.out; omega)
          rw [show ((k + 1 : Nat) : Int) = (k : Int) + 1 from rfl] at FIN
          clear fs6 fs7 H1b HBXb HFRb HSZb H1a HBXa HFRa H1v HATv HFRv HSZv HBXv
          gi_wp2
          exact FIN.out
        · have hrem : ((qm : Int) == 0) = false := by rw [beq_eq_false_iff_ne]; omega
          obtain ⟨W5, hW5⟩ : ∃ W5, W1 = W5 := ⟨_, rfl⟩
          have HBZ : Hid (BX w1.heap.size W1 (.slice ba pn bc) (.slice ra rn rc) (pairsB e l k) (nI (startsN e (l ++ [x]) (k + 1)))) := Lib.hid (by
            rw [HSS.out, if_neg (by rw [hqm]; exact hq0)]
            exact H2w.out)
          have H1z := H1w
          have HATz := HATw
          have HFRz := HFR
          have HSZz := HSZ
          clear H1w HATw HFR HSZ H2w
          rw [hW5] at HBZ H1z HATz HFRz HSZz ⊢
          clear hW5
          have HSHX : Hid (∀ w, Calls Tryz.prog 121 #[.string ah, .string x.key] w (PlainRet (.int .i64 (sh : Int)) w)) := Lib.hid fun w => by
            have q := bshared_c ah x.key (Nat.le_trans HKZ.out (by unfold maxLen; omega)) (Nat.le_trans HXS.out.1 (by unfold maxLen; omega)) w
            have q2 : shL (bs ah) (bs x.key) = sh := by rw [HSHE.out, if_neg (by rw [hqm]; exact hq0)]
            rw [q2] at q
            exact q
          have c6 := H1z.out.b6.cell 0
          have c5 := H1z.out.b5.cell 0
          have o0 := HATz.out.cell 0
          have o1 := HATz.out.cell 1
          have HBOC : Hid (∀ w, Calls Tryz.prog 144 #[.agg #[.string x.key, .string x.val], .int .i64 (sh : Int)] w (NewRow (oneB x sh) w)) := Lib.hid fun w => bytesOf_c x sh w HSHL.out (Nat.le_trans HXS.out.1 (by omega)) (Nat.le_trans HXS.out.2 (by omega))
          have HOL : Hid ((oneB x sh).length ≤ 300027) := Lib.hid (by
            have := HSHL.out
            have := HXS.out
            have q1 := enc_len9 (show sh < 9223372036854775808 by omega)
            have q2 := enc_len9 (show x.key.size - sh < 9223372036854775808 by omega)
            have q3 := enc_len9 (show x.val.size < 9223372036854775808 by omega)
            unfold oneB
            simp only [List.length_append, List.length_drop, bs_length]
            omega)
          gi_wp2
          refine wpIn_region_round (S := fun w' => w'.cell? ⟨w.heap.size + 1 + 1 + 1 + 1 + 1 + 1, 0, none⟩ = some (.string ah) ∧ w'.cell? ⟨O, 0, none⟩ = some (.string x.key) ∧ w'.cell? ⟨O, 1, none⟩ = some (.string x.val)) (by kernel_rfl) (by kernel_rfl) (fun h => by obtain ⟨_, _, h⟩ := h; exact h) ⟨c6, o0, o1⟩ (fun hSx => ?_)
          refine take_drop (i := 1) (v := ?v1_w26) rfl (by kernel_rfl) (by kernel_rfl) (by kernel_rfl) (fun _ _ _ h => h) (Or.inl ⟨by rfl, ?h1_w26⟩) hSx ?r1_w26
          case h1_w26 => (intro wS hSw; obtain ⟨s1, s2, s3⟩ := hSw; go_simp; all_goals (first | (with_reducible rfl) | (rw [if_neg (by omega)])))
          simp only [Act.put, List.setIfInBounds_toArray, List.set_cons_zero, List.set_cons_succ]
          refine take_drop (i := 2) (v := ?v2_w27) rfl (by kernel_rfl) (by kernel_rfl) (by kernel_rfl) (fun _ _ _ h => h) (Or.inl ⟨by rfl, ?h2_w27⟩) hSx ?r2_w27
          case h2_w27 => (intro wS hSw; obtain ⟨s1, s2, s3⟩ := hSw; go_simp; all_goals (first | (with_reducible rfl) | (rw [if_neg (by omega)])))
          simp only [Act.put, List.setIfInBounds_toArray, List.set_cons_zero, List.set_cons_succ]
          refine take_drop (i := 3) (v := ?v3_w28) rfl (by kernel_rfl) (by kernel_rfl) (by kernel_rfl) (fun _ _ _ h => h) (Or.inl ⟨by rfl, ?h3_w28⟩) hSx ?r3_w28
          case h3_w28 => (intro wS hSw; obtain ⟨s1, s2, s3⟩ := hSw; go_simp; all_goals (first | (with_reducible rfl) | (rw [if_neg (by omega)])))
          simp only [Act.put, List.setIfInBounds_toArray, List.set_cons_zero, List.set_cons_succ]
          refine take_drop (i := 4) (v := ?v4_w29) rfl (by kernel_rfl) (by kernel_rfl) (by kernel_rfl) (fun _ _ _ h => h) (Or.inl ⟨by rfl, ?h4_w29⟩) hSx ?r4_w29
          case h4_w29 => (intro wS hSw; obtain ⟨s1, s2, s3⟩ := hSw; go_simp; all_goals (first | (with_reducible rfl) | (rw [if_neg (by omega)])))
          simp only [Act.put, List.setIfInBounds_toArray, List.set_cons_zero, List.set_cons_succ]
          have HFB : Hid (Fr No W5 W5.drew) := Lib.hid ((Fr.refl No W5).drew)
          refine wpAnyH_ready (rs := [0, 5]) (by kernel_rfl) (by simp) ?_
          refine do_drop (i := 0) rfl (fun K hK => ?_) ?_
          · go_simp
            refine hK.out _ _ hSx ?_
            clear hK K
            try simp only [Act.put, List.setIfInBounds_toArray, List.set_cons_zero, List.set_cons_succ]
            refine wpAnyH_ready (rs := [5]) (by kernel_rfl) (by simp) ?_
            refine do_drop (i := 5) rfl (fun K hK => ?_) AllReadyH.nil
            go_simp
            refine (HSHX.out _).mono ?_
            rintro en Wa ⟨rfl, fa⟩
            have hSx := (show Wa.cell? ⟨w.heap.size + 1 + 1 + 1 + 1 + 1 + 1, 0, none⟩ = some (.string ah) ∧ Wa.cell? ⟨O, 0, none⟩ = some (.string x.key) ∧ Wa.cell? ⟨O, 1, none⟩ = some (.string x.val) from ⟨fa.cell hSx.1 (fun h => h), fa.cell hSx.2.1 (fun h => h), fa.cell hSx.2.2 (fun h => h)⟩)
            have c5 := fa.cell c5 (fun h => h)
            have HFA := Lib.hid (HFB.out.trans fa)
            refine hK.out _ _ hSx ?_
            clear fa
            clear hK K
            try simp only [Act.put, List.setIfInBounds_toArray, List.set_cons_zero, List.set_cons_succ]
            refine wpAnyH_ready (rs := [6]) (by kernel_rfl) (by simp) ?_
            refine do_drop (i := 6) rfl (fun K hK => ?_) AllReadyH.nil
            go_simp
            refine (HBOC.out _).mono ?_
            rintro en Wb ⟨vb, rfl, rb, fb⟩
            obtain ⟨ab, cb, rfl, _, _, inb⟩ := rb.form
            have FB := HFA.out.trans fb
            obtain ⟨vn, Wc, hrun, hbx, hfc⟩ := (HBZ.out.keep FB (fun _ h => h.elim)).more (Nat.le_trans HSZz.out FB.size) ab _ cb (oneB x sh) rfl inb.rd (by rw [HPNE.out]; have := HOL.out; have := HPL.out; omega)
            obtain ⟨ba3, bn3, bc3, rfl⟩ := hbx.out.shape
            have hSx := (show Wb.cell? ⟨w.heap.size + 1 + 1 + 1 + 1 + 1 + 1, 0, none⟩ = some (.string ah) ∧ Wb.cell? ⟨O, 0, none⟩ = some (.string x.key) ∧ Wb.cell? ⟨O, 1, none⟩ = some (.string x.val) from ⟨fb.cell hSx.1 (fun h => h), fb.cell hSx.2.1 (fun h => h), fb.cell hSx.2.2 (fun h => h)⟩)
            have c5 := fb.cell c5 (fun h => h)
            have HRUN := Lib.hid hrun
            have hnb : ∀ q, Own1 (.slice ba pn bc) q → w.heap.size + 7 ≤ q := fun q hq => by have := HBZ.out.newo q hq; have := K3.out; omega
            have H1u := Lib.hid ((H1z.out.keep FB (fun _ h => h.elim)).keep hfc hnb)
            have HATu := Lib.hid ((HATz.out.keep FB (fun h => h)).keep hfc (fun h => HBZ.out.notPair (.inl h) HATz.out))
            have HFRu := Lib.hid ((HFRz.out.then_ FB (fun _ _ h => h.elim)).then_ hfc (fun q hq h => .inr (.inr (.inr (.inl h)))))
            have HSZu : Hid (w1.heap.size ≤ Wc.heap.size) := Lib.hid (Nat.le_trans (Nat.le_trans HSZz.out FB.size) hfc.size)
            have HBXu : Hid (BX w1.heap.size Wc (.slice ba3 bn3 bc3) (.slice ra rn rc) (pairsB e (l ++ [x]) (k + 1)) (nI (startsN e (l ++ [x]) (k + 1)))) := Lib.hid (by rw [HPS.out]; exact hbx)
            obtain ⟨ol, hol⟩ : ∃ ol, (oneB x sh).length = ol := ⟨_, rfl⟩
            rw [hol] at HRUN ⊢
            refine hK.out _ _ hSx ?_
            clear fb rb inb hrun hbx hfc hnb FB hol
            clear hK K
            try simp only [Act.put, List.setIfInBounds_toArray, List.set_cons_zero, List.set_cons_succ]
            refine wpAnyH_ready (rs := [7]) (by kernel_rfl) (by simp) ?_
            refine do_drop (i := 7) rfl (fun K hK => ?_) AllReadyH.nil
            rw [if_pos (by rfl)]
            refine oper_append_run _ _ 27 rfl rfl rfl HRUN.out ?_
            have u6 := H1u.out.b6.cell 0
            have u5 := H1u.out.b5.cell 0
            have y5 := H1u.out.b5.frozen 0
            have uo0 := HATu.out.cell 0
            have uo1 := HATu.out.cell 1
            refine hK.out _ _ ⟨u6, uo0, uo1⟩ ?_
            clear c5
            clear hK K
            try simp only [Act.put, List.setIfInBounds_toArray, List.set_cons_zero, List.set_cons_succ]
            refine wpAnyH_ready (rs := [8]) (by kernel_rfl) (by simp) ?_
            refine do_drop (i := 8) rfl (fun K hK => ?_) AllReadyH.nil
            go_simp
            have fst := fr_one Wc (w.heap.size + 1 + 1 + 1 + 1 + 1) 0 (.slice ba3 bn3 bc3)
            have H1v := Lib.hid (H1u.out.setB (.slice ba3 bn3 bc3))
            have HATv := Lib.hid (HATu.out.keep fst (fun h => by have h : O = w.heap.size + 1 + 1 + 1 + 1 + 1 := h; have := HO.out; have := K3.out; omega))
            have HFRv := Lib.hid (HFRu.out.then_ fst (fun q hq h => .inr (.inl h)))
            have HSZv : Hid (w1.heap.size ≤ (Wc.setCell ⟨w.heap.size + 1 + 1 + 1 + 1 + 1, 0, none⟩ (.slice ba3 bn3 bc3)).heap.size) := Lib.hid (Nat.le_trans HSZu.out fst.size)
            have HBXv := Lib.hid (HBXu.out.keep fst (fun q h => by have h : q = w.heap.size + 1 + 1 + 1 + 1 + 1 := h; have := K3.out; omega))
            obtain ⟨Wd, hWd⟩ : ∃ Wd, Wc.setCell ⟨w.heap.size + 1 + 1 + 1 + 1 + 1, 0, none⟩ (.slice ba3 bn3 bc3) = Wd := ⟨_, rfl⟩
            rw [hWd] at H1v HATv HFRv HSZv HBXv ⊢
            have u6 := H1v.out.b6.cell 0
            have uo0 := HATv.out.cell 0
            have uo1 := HATv.out.cell 1
            refine hK.out _ _ ⟨u6, uo0, uo1⟩ ?_
            clear hK K hSx u5 y5 fst hWd H1u HATu HFRu HSZu HBXu
            refine wpAnyH_done (by kernel_rfl) ?_ _
            have y6 := H1v.out.b6.frozen 0
            have fs6 := fr_one Wd (w.heap.size + 1 + 1 + 1 + 1 + 1 + 1) 0 (.string x.key)
            have H1a := Lib.hid (H1v.out.setAh x.key)
            have HBXa := Lib.hid (HBXv.out.keep fs6 (fun q h => by have h : q = w.heap.size + 1 + 1 + 1 + 1 + 1 + 1 := h; have := K3.out; omega))
            have HFRa := Lib.hid (HFRv.out.then_ fs6 (fun q hq h => .inr (.inr (.inl h))))
            have a4 := H1a.out.b4.cell 0
            have a32 := H1a.out.b3.cell 2
            have y32 := H1a.out.b3.frozen 2
            have fs7 := fr_one (Wd.setCell ⟨w.heap.size + 1 + 1 + 1 + 1 + 1 + 1, 0, none⟩ (.string x.key)) (w.heap.size + 1 + 1 + 1) 2 (.int .i64 ((k + 1 : Nat) : Int))
            have H1b := Lib.hid (H1a.out.setC (k + 1))
            have HBXb := Lib.hid (HBXa.out.keep fs7 (fun q h => by have h : q = w.heap.size + 1 + 1 + 1 := h; have := K3.out; omega))
            have HFRb := Lib.hid (HFRa.out.then_ fs7 (fun q hq h => .inl h))
            have HSZb : Hid (w1.heap.size ≤ ((Wd.setCell ⟨w.heap.size + 1 + 1 + 1 + 1 + 1 + 1, 0, none⟩ (.string x.key)).setCell ⟨w.heap.size + 1 + 1 + 1, 2, none⟩ (.int .i64 ((k + 1 : Nat) : Int))).heap.size) := Lib.hid (Nat.le_trans (Nat.le_trans HSZv.out fs6.size) fs7.size)
            have FIN : Hid (KeepsFrom w1.heap.size W _ ∧ Kq (fun q => q < w.heap.size) W _ ∧ PkI w w1 e L (pre ++ [z]) ((Wd.setCell ⟨w.heap.size + 1 + 1 + 1 + 1 + 1 + 1, 0, none⟩ (.string x.key)).setCell ⟨w.heap.size + 1 + 1 + 1, 2, none⟩ (.int .i64 ((k + 1 : Nat) : Int)))) := Lib.hid (by
              obtain ⟨kk1, kk2⟩ := pk_keeps H1.out H2.out (show w.heap.size ≤ w1.heap.size by have := K3.out; omega) HFRb.out
              refine ⟨kk1.from _, kk2, HPX.out _ ⟨.slice ra rn rc, .slice ba3 bn3 bc3, ?_, ?_, HORD.out, ?_, HSZb.out⟩⟩
              · rw [HLEN.out, HKS.out]
                exact H1b.out
              · rw [HLEN.out]
                exact HBXb.out
              · refine H6.out.then_ HFRb.out (fun q hq h => ?_)
                rcases h with h | h | h | h | h
                · omega
                · omega
                · omega
                · have := H2.out.newo q h; have := K3.out; omega
                · have := H2.out.news q h; have := K3.out; omega)
            rw [show ((k + 1 : Nat) : Int) = (k : Int) + 1 from rfl] at FIN
            clear fs6 fs7 H1b HBXb HFRb HSZb H1a HBXa HFRa H1v HATv HFRv HSZv HBXv
            gi_wp2
            exact FIN.out
          refine do_drop (i := 5) rfl (fun K hK => ?_) AllReadyH.nil
          go_simp
          refine (HSHX.out _).mono ?_
          rintro en Wa ⟨rfl, fa⟩
          have hSx := (show Wa.cell? ⟨w.heap.size + 1 + 1 + 1 + 1 + 1 + 1, 0, none⟩ = some (.string ah) ∧ Wa.cell? ⟨O, 0, none⟩ = some (.string x.key) ∧ Wa.cell? ⟨O, 1, none⟩ = some (.string x.val) from ⟨fa.cell hSx.1 (fun h => h), fa.cell hSx.2.1 (fun h => h), fa.cell hSx.2.2 (fun h => h)⟩)
          have c5 := fa.cell c5 (fun h => h)
          have HFA := Lib.hid (HFB.out.trans fa)
          refine hK.out _ _ hSx ?_
          clear fa
          clear hK K
          try simp only [Act.put, List.setIfInBounds_toArray, List.set_cons_zero, List.set_cons_succ]
          refine wpAnyH_ready (rs := [0, 6]) (by kernel_rfl) (by simp) ?_
          refine do_drop (i := 0) rfl (fun K hK => ?_) ?_
          · go_simp
            refine hK.out _ _ hSx ?_
            clear hK K
            try simp only [Act.put, List.setIfInBounds_toArray, List.set_cons_zero, List.set_cons_succ]
            refine wpAnyH_ready (rs := [6]) (by kernel_rfl) (by simp) ?_
            refine do_drop (i := 6) rfl (fun K hK => ?_) AllReadyH.nil
            go_simp
            refine (HBOC.out _).mono ?_
            rintro en Wb ⟨vb, rfl, rb, fb⟩
            obtain ⟨ab, cb, rfl, _, _, inb⟩ := rb.form
            have FB := HFA.out.trans fb
            obtain ⟨vn, Wc, hrun, hbx, hfc⟩ := (HBZ.out.keep FB (fun _ h => h.elim)).more (Nat.le_trans HSZz.out FB.size) ab _ cb (oneB x sh) rfl inb.rd (by rw [HPNE.out]; have := HOL.out; have := HPL.out; omega)
            obtain ⟨ba3, bn3, bc3, rfl⟩ := hbx.out.shape
            have hSx := (show Wb.cell? ⟨w.heap.size + 1 + 1 + 1 + 1 + 1 + 1, 0, none⟩ = some (.string ah) ∧ Wb.cell? ⟨O, 0, none⟩ = some (.string x.key) ∧ Wb.cell? ⟨O, 1, none⟩ = some (.string x.val) from ⟨fb.cell hSx.1 (fun h => h), fb.cell hSx.2.1 (fun h => h), fb.cell hSx.2.2 (fun h => h)⟩)
            have c5 := fb.cell c5 (fun h => h)
            have HRUN := Lib.hid hrun
            have hnb : ∀ q, Own1 (.slice ba pn bc) q → w.heap.size + 7 ≤ q := fun q hq => by have := HBZ.out.newo q hq; have := K3.out; omega
            have H1u := Lib.hid ((H1z.out.keep FB (fun _ h => h.elim)).keep hfc hnb)
            have HATu := Lib.hid ((HATz.out.keep FB (fun h => h)).keep hfc (fun h => HBZ.out.notPair (.inl h) HATz.out))
            have HFRu := Lib.hid ((HFRz.out.then_ FB (fun _ _ h => h.elim)).then_ hfc (fun q hq h => .inr (.inr (.inr (.inl h)))))
            have HSZu : Hid (w1.heap.size ≤ Wc.heap.size) := Lib.hid (Nat.le_trans (Nat.le_trans HSZz.out FB.size) hfc.size)
            have HBXu : Hid (BX w1.heap.size Wc (.slice ba3 bn3 bc3) (.slice ra rn rc) (pairsB e (l ++ [x]) (k + 1)) (nI (startsN e (l ++ [x]) (k + 1)))) := Lib.hid (by rw [HPS.out]; exact hbx)
            obtain ⟨ol, hol⟩ : ∃ ol, (oneB x sh).length = ol := ⟨_, rfl⟩
            rw [hol] at HRUN ⊢
            refine hK.out _ _ hSx ?_
            clear fb rb inb hrun hbx hfc hnb FB hol
            clear hK K
            try simp only [Act.put, List.setIfInBounds_toArray, List.set_cons_zero, List.set_cons_succ]
            refine wpAnyH_ready (rs := [7]) (by kernel_rfl) (by simp) ?_
            refine do_drop (i := 7) rfl (fun K hK => ?_) AllReadyH.nil
            rw [if_pos (by rfl)]
            refine oper_append_run _ _ 27 rfl rfl rfl HRUN.out ?_
            have u6 := H1u.out.b6.cell 0
            have u5 := H1u.out.b5.cell 0
            have y5 := H1u.out.b5.frozen 0
            have uo0 := HATu.out.cell 0
            have uo1 := HATu.out.cell 1
            refine hK.out _ _ ⟨u6, uo0, uo1⟩ ?_
            clear c5
            clear hK K
            try simp only [Act.put, List.setIfInBounds_toArray, List.set_cons_zero, List.set_cons_succ]
            refine wpAnyH_ready (rs := [8]) (by kernel_rfl) (by simp) ?_
            refine do_drop (i := 8) rfl (fun K hK => ?_) AllReadyH.nil
            go_simp
            have fst := fr_one Wc (w.heap.size + 1 + 1 + 1 + 1 + 1) 0 (.slice ba3 bn3 bc3)
            have H1v := Lib.hid (H1u.out.setB (.slice ba3 bn3 bc3))
            have HATv := Lib.hid (HATu.out.keep fst (fun h => by have h : O = w.heap.size + 1 + 1 + 1 + 1 + 1 := h; have := HO.out; have := K3.out; omega))
            have HFRv := Lib.hid (HFRu.out.then_ fst (fun q hq h => .inr (.inl h)))
            have HSZv : Hid (w1.heap.size ≤ (Wc.setCell ⟨w.heap.size + 1 + 1 + 1 + 1 + 1, 0, none⟩ (.slice ba3 bn3 bc3)).heap.size) := Lib.hid (Nat.le_trans HSZu.out fst.size)
            have HBXv := Lib.hid (HBXu.out.keep fst (fun q h => by have h : q = w.heap.size + 1 + 1 + 1 + 1 + 1 := h; have := K3.out; omega))
            obtain ⟨Wd, hWd⟩ : ∃ Wd, Wc.setCell ⟨w.heap.size + 1 + 1 + 1 + 1 + 1, 0, none⟩ (.slice ba3 bn3 bc3) = Wd := ⟨_, rfl⟩
            rw [hWd] at H1v HATv HFRv HSZv HBXv ⊢
            have u6 := H1v.out.b6.cell 0
            have uo0 := HATv.out.cell 0
            have uo1 := HATv.out.cell 1
            refine hK.out _ _ ⟨u6, uo0, uo1⟩ ?_
            clear hK K hSx u5 y5 fst hWd H1u HATu HFRu HSZu HBXu
            refine wpAnyH_done (by kernel_rfl) ?_ _
            have y6 := H1v.out.b6.frozen 0
            have fs6 := fr_one Wd (w.heap.size + 1 + 1 + 1 + 1 + 1 + 1) 0 (.string x.key)
            have H1a := Lib.hid (H1v.out.setAh x.key)
            have HBXa := Lib.hid (HBXv.out.keep fs6 (fun q h => by have h : q = w.heap.size + 1 + 1 + 1 + 1 + 1 + 1 := h; have := K3.out; omega))
            have HFRa := Lib.hid (HFRv.out.then_ fs6 (fun q hq h => .inr (.inr (.inl h))))
            have a4 := H1a.out.b4.cell 0
            have a32 := H1a.out.b3.cell 2
            have y32 := H1a.out.b3.frozen 2
            have fs7 := fr_one (Wd.setCell ⟨w.heap.size + 1 + 1 + 1 + 1 + 1 + 1, 0, none⟩ (.string x.key)) (w.heap.size + 1 + 1 + 1) 2 (.int .i64 ((k + 1 : Nat) : Int))
            have H1b := Lib.hid (H1a.out.setC (k + 1))
            have HBXb := Lib.hid (HBXa.out.keep fs7 (fun q h => by have h : q = w.heap.size + 1 + 1 + 1 := h; have := K3.out; omega))
            have HFRb := Lib.hid (HFRa.out.then_ fs7 (fun q hq h => .inl h))
            have HSZb : Hid (w1.heap.size ≤ ((Wd.setCell ⟨w.heap.size + 1 + 1 + 1 + 1 + 1 + 1, 0, none⟩ (.string x.key)).setCell ⟨w.heap.size + 1 + 1 + 1, 2, none⟩ (.int .i64 ((k + 1 : Nat) : Int))).heap.size) := Lib.hid (Nat.le_trans (Nat.le_trans HSZv.out fs6.size) fs7.size)
            have FIN : Hid (KeepsFrom w1.heap.size W _ ∧ Kq (fun q => q < w.heap.size) W _ ∧ PkI w w1 e L (pre ++ [z]) ((Wd.setCell ⟨w.heap.size + 1 + 1 + 1 + 1 + 1 + 1, 0, none⟩ (.string x.key)).setCell ⟨w.heap.size + 1 + 1 + 1, 2, none⟩ (.int .i64 ((k + 1 : Nat) : Int)))) := Lib.hid (by
              obtain ⟨kk1, kk2⟩ := pk_keeps H1.out H2.out (show w.heap.size ≤ w1.heap.size by have := K3.out; omega) HFRb.out
              refine ⟨kk1.from _, kk2, HPX.out _ ⟨.slice ra rn rc, .slice ba3 bn3 bc3, ?_, ?_, HORD.out, ?_, HSZb.out⟩⟩
              · rw [HLEN.out, HKS.out]
                exact H1b.out
              · rw [HLEN.out]
                exact HBXb.out
              · refine H6.out.then_ HFRb.out (fun q hq h => ?_)
                rcases h with h | h | h | h | h
                · omega
                · omega
                · omega
                · have := H2.out.newo q h; have := K3.out; omega
                · have := H2.out.news q h; have := K3.out; omega)
            rw [show ((k + 1 : Nat) : Int) = (k : Int) + 1 from rfl] at FIN
            clear fs6 fs7 H1b HBXb HFRb HSZb H1a HBXa HFRa H1v HATv HFRv HSZv HBXv
            gi_wp2
            exact FIN.out
          refine do_drop (i := 6) rfl (fun K hK => ?_) AllReadyH.nil
          go_simp
          refine (HBOC.out _).mono ?_
          rintro en Wb ⟨vb, rfl, rb, fb⟩
          obtain ⟨ab, cb, rfl, _, _, inb⟩ := rb.form
          have FB := HFA.out.trans fb
          obtain ⟨vn, Wc, hrun, hbx, hfc⟩ := (HBZ.out.keep FB (fun _ h => h.elim)).more (Nat.le_trans HSZz.out FB.size) ab _ cb (oneB x sh) rfl inb.rd (by rw [HPNE.out]; have := HOL.out; have := HPL.out; omega)
          obtain ⟨ba3, bn3, bc3, rfl⟩ := hbx.out.shape
          have hSx := (show Wb.cell? ⟨w.heap.size + 1 + 1 + 1 + 1 + 1 + 1, 0, none⟩ = some (.string ah) ∧ Wb.cell? ⟨O, 0, none⟩ = some (.string x.key) ∧ Wb.cell? ⟨O, 1, none⟩ = some (.string x.val) from ⟨fb.cell hSx.1 (fun h => h), fb.cell hSx.2.1 (fun h => h), fb.cell hSx.2.2 (fun h => h)⟩)
          have c5 := fb.cell c5 (fun h => h)
          have HRUN := Lib.hid hrun
          have hnb : ∀ q, Own1 (.slice ba pn bc) q → w.heap.size + 7 ≤ q := fun q hq => by have := HBZ.out.newo q hq; have := K3.out; omega
          have H1u := Lib.hid ((H1z.out.keep FB (fun _ h => h.elim)).keep hfc hnb)
          have HATu := Lib.hid ((HATz.out.keep FB (fun h => h)).keep hfc (fun h => HBZ.out.notPair (.inl h) HATz.out))
          have HFRu := Lib.hid ((HFRz.out.then_ FB (fun _ _ h => h.elim)).then_ hfc (fun q hq h => .inr (.inr (.inr (.inl h)))))
          have HSZu : Hid (w1.heap.size ≤ Wc.heap.size) := Lib.hid (Nat.le_trans (Nat.le_trans HSZz.out FB.size) hfc.size)
          have HBXu : Hid (BX w1.heap.size Wc (.slice ba3 bn3 bc3) (.slice ra rn rc) (pairsB e (l ++ [x]) (k + 1)) (nI (startsN e (l ++ [x]) (k + 1)))) := Lib.hid (by rw [HPS.out]; exact hbx)
          obtain ⟨ol, hol⟩ : ∃ ol, (oneB x sh).length = ol := ⟨_, rfl⟩
          rw [hol] at HRUN ⊢
          refine hK.out _ _ hSx ?_
          clear fb rb inb hrun hbx hfc hnb FB hol
          clear hK K
          try simp only [Act.put, List.setIfInBounds_toArray, List.set_cons_zero, List.set_cons_succ]
          refine wpAnyH_ready (rs := [0]) (by kernel_rfl) (by simp) ?_
          refine do_drop (i := 0) rfl (fun K hK => ?_) AllReadyH.nil
          go_simp
          refine hK.out _ _ hSx ?_
          clear hK K
          try simp only [Act.put, List.setIfInBounds_toArray, List.set_cons_zero, List.set_cons_succ]
          refine wpAnyH_ready (rs := [7]) (by kernel_rfl) (by simp) ?_
          refine do_drop (i := 7) rfl (fun K hK => ?_) AllReadyH.nil
          rw [if_pos (by rfl)]
          refine oper_append_run _ _ 27 rfl rfl rfl HRUN.out ?_
          have u6 := H1u.out.b6.cell 0
          have u5 := H1u.out.b5.cell 0
          have y5 := H1u.out.b5.frozen 0
          have uo0 := HATu.out.cell 0
          have uo1 := HATu.out.cell 1
          refine hK.out _ _ ⟨u6, uo0, uo1⟩ ?_
          clear c5
          clear hK K
          try simp only [Act.put, List.setIfInBounds_toArray, List.set_cons_zero, List.set_cons_succ]
          refine wpAnyH_ready (rs := [8]) (by kernel_rfl) (by simp) ?_
          refine do_drop (i := 8) rfl (fun K hK => ?_) AllReadyH.nil
          go_simp
          have fst := fr_one Wc (w.heap.size + 1 + 1 + 1 + 1 + 1) 0 (.slice ba3 bn3 bc3)
          have H1v := Lib.hid (H1u.out.setB (.slice ba3 bn3 bc3))
          have HATv := Lib.hid (HATu.out.keep fst (fun h => by have h : O = w.heap.size + 1 + 1 + 1 + 1 + 1 := h; have := HO.out; have := K3.out; omega))
          have HFRv := Lib.hid (HFRu.out.then_ fst (fun q hq h => .inr (.inl h)))
          have HSZv : Hid (w1.heap.size ≤ (Wc.setCell ⟨w.heap.size + 1 + 1 + 1 + 1 + 1, 0, none⟩ (.slice ba3 bn3 bc3)).heap.size) := Lib.hid (Nat.le_trans HSZu.out fst.size)
          have HBXv := Lib.hid (HBXu.out.keep fst (fun q h => by have h : q = w.heap.size + 1 + 1 + 1 + 1 + 1 := h; have := K3.out; omega))
          obtain ⟨Wd, hWd⟩ : ∃ Wd, Wc.setCell ⟨w.heap.size + 1 + 1 + 1 + 1 + 1, 0, none⟩ (.slice ba3 bn3 bc3) = Wd := ⟨_, rfl⟩
          rw [hWd] at H1v HATv HFRv HSZv HBXv ⊢
          have u6 := H1v.out.b6.cell 0
          have uo0 := HATv.out.cell 0
          have uo1 := HATv.out.cell 1
          refine hK.out _ _ ⟨u6, uo0, uo1⟩ ?_
          clear hK K hSx u5 y5 fst hWd H1u HATu HFRu HSZu HBXu
          refine wpAnyH_done (by kernel_rfl) ?_ _
          have y6 := H1v.out.b6.frozen 0
          have fs6 := fr_one Wd (w.heap.size + 1 + 1 + 1 + 1 + 1 + 1) 0 (.string x.key)
          have H1a := Lib.hid (H1v.out.setAh x.key)
          have HBXa := Lib.hid (HBXv.out.keep fs6 (fun q h => by have h : q = w.heap.size + 1 + 1 + 1 + 1 + 1 + 1 := h; have := K3.out; omega))
          have HFRa := Lib.hid (HFRv.out.then_ fs6 (fun q hq h => .inr (.inr (.inl h))))
          have a4 := H1a.out.b4.cell 0
          have a32 := H1a.out.b3.cell 2
          have y32 := H1a.out.b3.frozen 2
          have fs7 := fr_one (Wd.setCell ⟨w.heap.size + 1 + 1 + 1 + 1 + 1 + 1, 0, none⟩ (.string x.key)) (w.heap.size + 1 + 1 + 1) 2 (.int .i64 ((k + 1 : Nat) : Int))
          have H1b := Lib.hid (H1a.out.setC (k + 1))
          have HBXb := Lib.hid (HBXa.out.keep fs7 (fun q h => by have h : q = w.heap.size + 1 + 1 + 1 := h; have := K3.out; omega))
          have HFRb := Lib.hid (HFRa.out.then_ fs7 (fun q hq h => .inl h))
          have HSZb : Hid (w1.heap.size ≤ ((Wd.setCell ⟨w.heap.size + 1 + 1 + 1 + 1 + 1 + 1, 0, none⟩ (.string x.key)).setCell ⟨w.heap.size + 1 + 1 + 1, 2, none⟩ (.int .i64 ((k + 1 : Nat) : Int))).heap.size) := Lib.hid (Nat.le_trans (Nat.le_trans HSZv.out fs6.size) fs7.size)
          have FIN : Hid (KeepsFrom w1.heap.size W _ ∧ Kq (fun q => q < w.heap.size) W _ ∧ PkI w w1 e L (pre ++ [z]) ((Wd.setCell ⟨w.heap.size + 1 + 1 + 1 + 1 + 1 + 1, 0, none⟩ (.string x.key)).setCell ⟨w.heap.size + 1 + 1 + 1, 2, none⟩ (.int .i64 ((k + 1 : Nat) : Int)))) := Lib.hid (by
            obtain ⟨kk1, kk2⟩ := pk_keeps H1.out H2.out (show w.heap.size ≤ w1.heap.size by have := K3.out; omega) HFRb.out
            refine ⟨kk1.from _, kk2, HPX.out _ ⟨.slice ra rn rc, .slice ba3 bn3 bc3, ?_, ?_, HORD.out, ?_, HSZb.out⟩⟩
            · rw [HLEN.out, HKS.out]
              exact H1b.out
            · rw [HLEN.out]
              exact HBXb.out
            · refine H6.out.then_ HFRb.out (fun q hq h => ?_)
              rcases h with h | h | h | h | h
              · omega
              · omega
              · omega
              · have := H2.out.newo q h; have := K3.out; omega
              · have := H2.out.news q h; have := K3.out; omega)
          rw [show ((k + 1 : Nat) : Int) = (k : Int) + 1 from rfl] at FIN
          clear fs6 fs7 H1b HBXb HFRb HSZb H1a HBXa HFRa H1v HATv HFRv HSZv HBXv
          gi_wp2
          exact FIN.out
    · have d0 : decide ((k : Int) > 0) = false := by rw [decide_eq_false_iff_not]; omega
      have HORD : Hid (ordP (l ++ [x])) := Lib.hid (HOS.out.2 ⟨H3.out, .inl (by omega)⟩)
      have he0 : ((e : Int) == 0) = false := by rw [beq_eq_false_iff_ne]; omega
      have he1 : ¬ (e : Int) = 0 := by omega
      obtain ⟨qm, hqm⟩ : ∃ qm, k % e = qm := ⟨_, rfl⟩
      have hqi : (k : Int) % (e : Int) = (qm : Int) := by rw [← hqm]; rfl
      have hqt : (k : Int).tmod (e : Int) = (qm : Int) := by rw [← Int.ofNat_tmod, hqm]
      gi_wp2
      refine wpIn_region_round (S := fun w' => w'.cell? ⟨w.heap.size + 1 + 1 + 1 + 1, 0, none⟩ = some (.pointer (some ⟨w.heap.size + 1 + 1 + 1, 0, none⟩)) ∧ w'.cell? ⟨w.heap.size + 1 + 1 + 1, 2, none⟩ = some (.int .i64 (k : Int)) ∧ w'.cell? ⟨w.heap.size, 0, none⟩ = some (.int .i64 (e : Int))) (by kernel_rfl) (by kernel_rfl) (fun h => by obtain ⟨_, _, h⟩ := h; exact h) ⟨c4, c32, b0⟩ (fun hSx => ?_)
      refine take_drop (i := 0) (v := ?v0_w30) rfl (by kernel_rfl) (by kernel_rfl) (by kernel_rfl) (fun _ _ _ h => h) (Or.inl ⟨by rfl, ?h0_w30⟩) hSx ?r0_w30
      case h0_w30 => (intro wS hSw; obtain ⟨s1, s2, s3⟩ := hSw; go_simp; all_goals (first | (with_reducible rfl) | (rw [if_neg (by omega)])))
      simp only [Act.put, List.setIfInBounds_toArray, List.set_cons_zero, List.set_cons_succ]
      refine take_drop (i := 1) (v := ?v1_w31) rfl (by kernel_rfl) (by kernel_rfl) (by kernel_rfl) (fun _ _ _ h => h) (Or.inl ⟨by rfl, ?h1_w31⟩) hSx ?r1_w31
      case h1_w31 => (intro wS hSw; obtain ⟨s1, s2, s3⟩ := hSw; go_simp; all_goals (first | (with_reducible rfl) | (rw [if_neg (by omega)])))
      simp only [Act.put, List.setIfInBounds_toArray, List.set_cons_zero, List.set_cons_succ]
      refine take_drop (i := 2) (v := ?v2_w32) rfl (by kernel_rfl) (by kernel_rfl) (by kernel_rfl) (fun _ _ _ h => h) (Or.inl ⟨by rfl, ?h2_w32⟩) hSx ?r2_w32
      case h2_w32 => (intro wS hSw; obtain ⟨s1, s2, s3⟩ := hSw; go_simp; all_goals (first | (with_reducible rfl) | (rw [if_neg (by omega)])))
      simp only [Act.put, List.setIfInBounds_toArray, List.set_cons_zero, List.set_cons_succ]
      refine take_drop (i := 3) (v := ?v3_w33) rfl (by kernel_rfl) (by kernel_rfl) (by kernel_rfl) (fun _ _ _ h => h) (Or.inl ⟨by rfl, ?h3_w33⟩) hSx ?r3_w33
      case h3_w33 => (intro wS hSw; obtain ⟨s1, s2, s3⟩ := hSw; go_simp; all_goals (first | (with_reducible rfl) | (rw [if_neg (by omega)])))
      simp only [Act.put, List.setIfInBounds_toArray, List.set_cons_zero, List.set_cons_succ]
      refine take_drop (i := 4) (v := ?v4_w34) rfl (by kernel_rfl) (by kernel_rfl) (by kernel_rfl) (fun _ _ _ h => h) (Or.inl ⟨by rfl, ?h4_w34⟩) hSx ?r4_w34
      case h4_w34 => (intro wS hSw; obtain ⟨s1, s2, s3⟩ := hSw; go_simp; all_goals (first | (with_reducible rfl) | (rw [if_neg (by omega)])))
      simp only [Act.put, List.setIfInBounds_toArray, List.set_cons_zero, List.set_cons_succ]
      refine take_drop (i := 5) (v := ?v5_w35) rfl (by kernel_rfl) (by kernel_rfl) (by kernel_rfl) (fun _ _ _ h => h) (Or.inl ⟨by rfl, ?h5_w35⟩) hSx ?r5_w35
      case h5_w35 => (intro wS hSw; obtain ⟨s1, s2, s3⟩ := hSw; go_simp; all_goals (first | (with_reducible rfl) | (rw [if_neg (by omega)])))
      simp only [Act.put, List.setIfInBounds_toArray, List.set_cons_zero, List.set_cons_succ]
      refine take_drop (i := 6) (v := ?v6_w36) rfl (by kernel_rfl) (by kernel_rfl) (by kernel_rfl) (fun _ _ _ h => h) (Or.inl ⟨by rfl, ?h6_w36⟩) hSx ?r6_w36
      case h6_w36 => (intro wS hSw; obtain ⟨s1, s2, s3⟩ := hSw; go_simp; all_goals (first | (with_reducible rfl) | (rw [if_neg (by omega)])))
      simp only [Act.put, List.setIfInBounds_toArray, List.set_cons_zero, List.set_cons_succ]
      refine wpAnyH_done (by kernel_rfl) ?_ _
      obtain ⟨W1, hW1⟩ : ∃ W1, W.drew = W1 := ⟨_, rfl⟩
      rw [hW1]
      have f1 : Fr No W W1 := by rw [← hW1]; exact (Fr.refl No W).drew
      have HFR : Hid (Fr (PkT w (.slice ra rn rc) (.slice ba pn bc)) W W1) := Lib.hid (f1.sub fun _ _ h => h.elim)
      have H1w := Lib.hid (H1.out.keep f1 (fun _ h => h.elim))
      have H2w := Lib.hid (H2.out.keep f1 (fun _ h => h.elim))
      have HATw := Lib.hid (HAT.out.keep f1 (fun h => h))
      have HSZ : Hid (w1.heap.size ≤ W1.heap.size) := Lib.hid (Nat.le_trans H7.out f1.size)
      clear hSx hW1 f1 b0 c32 c31 c4 c5 c6 o0 o1
      by_cases hq0 : qm = 0
      · have hrem : ((qm : Int) == 0) = true := by rw [beq_iff_eq]; omega
        have c4 := H1w.out.b4.cell 0
        have c31 := H1w.out.b3.cell 1
        have c5 := H1w.out.b5.cell 0
        gi_wp2
        refine wpIn_region_round (S := fun w' => w'.cell? ⟨w.heap.size + 1 + 1 + 1 + 1, 0, none⟩ = some (.pointer (some ⟨w.heap.size + 1 + 1 + 1, 0, none⟩)) ∧ w'.cell? ⟨w.heap.size + 1 + 1 + 1 + 1 + 1, 0, none⟩ = some (.slice ba pn bc)) (by kernel_rfl) (by kernel_rfl) (fun h => by obtain ⟨_, _, h⟩ := h; exact h) ⟨c4, c5⟩ (fun hSx => ?_)
        refine take_drop (i := 0) (v := ?v0_w37) rfl (by kernel_rfl) (by kernel_rfl) (by kernel_rfl) (fun _ _ _ h => h) (Or.inl ⟨by rfl, ?h0_w37⟩) hSx ?r0_w37
        case h0_w37 => (intro wS hSw; obtain ⟨s1, s2⟩ := hSw; go_simp; all_goals (first | (with_reducible rfl) | (rw [if_neg (by omega)])))
        simp only [Act.put, List.setIfInBounds_toArray, List.set_cons_zero, List.set_cons_succ]
        refine take_drop (i := 1) (v := ?v1_w38) rfl (by kernel_rfl) (by kernel_rfl) (by kernel_rfl) (fun _ _ _ h => h) (Or.inl ⟨by rfl, ?h1_w38⟩) hSx ?r1_w38
        case h1_w38 => (intro wS hSw; obtain ⟨s1, s2⟩ := hSw; go_simp; all_goals (first | (with_reducible rfl) | (rw [if_neg (by omega)])))
        simp only [Act.put, List.setIfInBounds_toArray, List.set_cons_zero, List.set_cons_succ]
        refine take_drop (i := 2) (v := ?v2_w39) rfl (by kernel_rfl) (by kernel_rfl) (by kernel_rfl) (fun _ _ _ h => h) (Or.inl ⟨by rfl, ?h2_w39⟩) hSx ?r2_w39
        case h2_w39 => (intro wS hSw; obtain ⟨s1, s2⟩ := hSw; go_simp; all_goals (first | (with_reducible rfl) | (rw [if_neg (by omega)])))
        simp only [Act.put, List.setIfInBounds_toArray, List.set_cons_zero, List.set_cons_succ]
        refine take_drop (i := 3) (v := ?v3_w40) rfl (by kernel_rfl) (by kernel_rfl) (by kernel_rfl) (fun _ _ _ h => h) (Or.inl ⟨by rfl, ?h3_w40⟩) hSx ?r3_w40
        case h3_w40 => (intro wS hSw; obtain ⟨s1, s2⟩ := hSw; go_simp; all_goals (first | (with_reducible rfl) | (rw [if_neg (by omega)])))
        simp only [Act.put, List.setIfInBounds_toArray, List.set_cons_zero, List.set_cons_succ]
        refine take_drop (i := 5) (v := ?v5_w41) rfl (by kernel_rfl) (by kernel_rfl) (by kernel_rfl) (fun _ _ _ h => h) (Or.inl ⟨by rfl, ?h5_w41⟩) hSx ?r5_w41
        case h5_w41 => (intro wS hSw; obtain ⟨s1, s2⟩ := hSw; go_simp; all_goals (first | (with_reducible rfl) | (rw [if_neg (by omega)])))
        simp only [Act.put, List.setIfInBounds_toArray, List.set_cons_zero, List.set_cons_succ]
        refine take_drop (i := 6) (v := ?v6_w42) rfl (by kernel_rfl) (by kernel_rfl) (by kernel_rfl) (fun _ _ _ h => h) (Or.inl ⟨by rfl, ?h6_w42⟩) hSx ?r6_w42
        case h6_w42 => (intro wS hSw; obtain ⟨s1, s2⟩ := hSw; go_simp; all_goals (first | (with_reducible rfl) | (rw [if_neg (by omega)])))
        simp only [Act.put, List.setIfInBounds_toArray, List.set_cons_zero, List.set_cons_succ]
        obtain ⟨W2, hW2⟩ : ∃ W2, W1.drew = W2 := ⟨_, rfl⟩
        rw [hW2] at hSx ⊢
        have f2 : Fr No W1 W2 := by rw [← hW2]; exact (Fr.refl No W1).drew
        have f2b := f2.alloc (.cells #[.int .i64 (pn : Int)] 3)
        obtain ⟨v3, W3, hrun, hbx, hf3⟩ := (H2w.out.keep f2 (fun _ h => h.elim)).push (Nat.le_trans HSZ.out f2.size) (pn : Int) (by rw [HRNE.out]; have := HSL.out; omega)
        obtain ⟨ra3, rn3, rc3, rfl⟩ := hbx.starts.form_
        have HRUN := Lib.hid hrun
        have hnk : ∀ q, Own1 (.slice ra rn rc) q → w.heap.size + 7 ≤ q := fun q hq => by have := H2w.out.news q hq; have := K3.out; omega
        have H1x := Lib.hid ((H1w.out.keep f2 (fun _ h => h.elim)).keep hf3 hnk)
        have fst := fr_one W3 (w.heap.size + 1 + 1 + 1) 1 (.slice ra3 rn3 rc3)
        have H1y := Lib.hid (H1x.out.setR (.slice ra3 rn3 rc3))
        have HBX : Hid (BX w1.heap.size (W3.setCell ⟨w.heap.size + 1 + 1 + 1, 1, none⟩ (.slice ra3 rn3 rc3)) (.slice ba pn bc) (.slice ra3 rn3 rc3) (pairsB e l k) (nI (startsN e (l ++ [x]) (k + 1)))) := Lib.hid (by
          rw [HSS.out, if_pos (by rw [hqm]; exact hq0)]
          unfold nI at hbx ⊢
          rw [List.map_append]
          exact hbx.keep fst (fun q h => by have h : q = w.heap.size + 1 + 1 + 1 := h; have := K3.out; omega))
        have HATy := Lib.hid (((HATw.out.keep f2 (fun h => h)).keep hf3 (fun h => H2w.out.notPair (.inr h) HATw.out)).keep fst (fun h => by have h : O = w.heap.size + 1 + 1 + 1 := h; have := HO.out; have := K3.out; omega))
        have HFRy := Lib.hid (((HFR.out.then_ f2 (fun _ _ h => h.elim)).then_ hf3 (fun q hq h => .inr (.inr (.inr (.inr h))))).then_ fst (fun q hq h => .inl h))
        have HSZy : Hid (w1.heap.size ≤ (W3.setCell ⟨w.heap.size + 1 + 1 + 1, 1, none⟩ (.slice ra3 rn3 rc3)).heap.size) := Lib.hid (Nat.le_trans (Nat.le_trans (Nat.le_trans HSZ.out f2.size) hf3.size) fst.size)
        have e4 := H1x.out.b4.cell 0
        have e31 := H1x.out.b3.cell 1
        have e5 := H1x.out.b5.cell 0
        have ez := H1x.out.b3.frozen 1
        have g4 := H1y.out.b4.cell 0
        have g5 := H1y.out.b5.cell 0
        have m4 := (f2b.cell c4 (fun h => h))
        have m31 := (f2b.cell c31 (fun h => h))
        have m5 := (f2b.cell c5 (fun h => h))
        have c31 := f2.cell c31 (fun h => h)
        clear hrun hbx hf3 hnk f2 f2b hW2 c4 c5 H1w H2w HATw HFR HSZ H1x fst
        refine wpAnyH_ready (rs := [4, 7]) (by kernel_rfl) (by simp) ?_
        refine do_drop (i := 4) rfl (fun K hK => ?_) ?_
        · go_simp
          refine hK.out _ _ hSx ?_
          clear hK K
          try simp only [Act.put, List.setIfInBounds_toArray, List.set_cons_zero, List.set_cons_succ]
          refine wpAnyH_ready (rs := [7]) (by kernel_rfl) (by simp) ?_
          refine do_drop (i := 7) rfl (fun K hK => ?_) AllReadyH.nil
          go_simp
          refine hK.out _ _ ⟨m4, m5⟩ ?_
          clear hK K
          try simp only [Act.put, List.setIfInBounds_toArray, List.set_cons_zero, List.set_cons_succ]
          refine wpAnyH_ready (rs := [8]) (by kernel_rfl) (by simp) ?_
          refine do_drop (i := 8) rfl (fun K hK => ?_) AllReadyH.nil
          rw [if_pos (by rfl)]
          refine oper_append_run _ _ 43 rfl rfl rfl HRUN.out ?_
          refine hK.out _ _ ⟨e4, e5⟩ ?_
          clear hK K hSx
          try simp only [Act.put, List.setIfInBounds_toArray, List.set_cons_zero, List.set_cons_succ]
          have hSx : W3.cell? ⟨w.heap.size + 1 + 1 + 1 + 1, 0, none⟩ = some (.pointer (some ⟨w.heap.size + 1 + 1 + 1, 0, none⟩)) ∧ W3.cell? ⟨w.heap.size + 1 + 1 + 1 + 1 + 1, 0, none⟩ = some (.slice ba pn bc) := ⟨e4, e5⟩
          refine take_drop (i := 9) (v := ?v9_w43) rfl (by kernel_rfl) (by kernel_rfl) (by kernel_rfl) (fun _ _ _ h => h) (Or.inl ⟨by rfl, ?h9_w43⟩) hSx ?r9_w43
          case h9_w43 => (intro wS hSw; obtain ⟨s1, s2⟩ := hSw; go_simp; all_goals (first | (with_reducible rfl) | (rw [if_neg (by omega)])))
          simp only [Act.put, List.setIfInBounds_toArray, List.set_cons_zero, List.set_cons_succ]
          refine take_drop (i := 10) (v := ?v10_w44) rfl (by kernel_rfl) (by kernel_rfl) (by kernel_rfl) (fun _ _ _ h => h) (Or.inl ⟨by rfl, ?h10_w44⟩) hSx ?r10_w44
          case h10_w44 => (intro wS hSw; obtain ⟨s1, s2⟩ := hSw; go_simp; all_goals (first | (with_reducible rfl) | (rw [if_neg (by omega)])))
          simp only [Act.put, List.setIfInBounds_toArray, List.set_cons_zero, List.set_cons_succ]
          refine wpAnyH_ready (rs := [11]) (by kernel_rfl) (by simp) ?_
          refine do_drop (i := 11) rfl (fun K hK => ?_) AllReadyH.nil
          go_simp
          refine hK.out _ _ ⟨g4, g5⟩ ?_
          clear hK K hSx
          refine wpAnyH_done (by kernel_rfl) ?_ _
          obtain ⟨W4, hW4⟩ : ∃ W4, W3.setCell ⟨w.heap.size + 1 + 1 + 1, 1, none⟩ (.slice ra3 rn3 rc3) = W4 := ⟨_, rfl⟩
          rw [hW4] at H1y HBX HATy HFRy HSZy ⊢
          have c6 := H1y.out.b6.cell 0
          have z6 := H1y.out.b6.frozen 0
          have fst := fr_one W4 (w.heap.size + 1 + 1 + 1 + 1 + 1 + 1) 0 (.string ⟨#[]⟩)
          have H1z : Hid (PkS w e (.slice ra3 rn3 rc3) (.slice ba pn bc) k ⟨#[]⟩ (W4.setCell ⟨w.heap.size + 1 + 1 + 1 + 1 + 1 + 1, 0, none⟩ (.string ⟨#[]⟩))) := Lib.hid (H1y.out.setAh ⟨#[]⟩)
          have HBZ := Lib.hid (HBX.out.keep fst (fun q h => by have h : q = w.heap.size + 1 + 1 + 1 + 1 + 1 + 1 := h; have := K3.out; omega))
          have HATz := Lib.hid (HATy.out.keep fst (fun h => by have h : O = w.heap.size + 1 + 1 + 1 + 1 + 1 + 1 := h; have := HO.out; have := K3.out; omega))
          have HFRz := Lib.hid (HFRy.out.then_ fst (fun q hq h => .inr (.inr (.inl h))))
          have HSZz : Hid (w1.heap.size ≤ (W4.setCell ⟨w.heap.size + 1 + 1 + 1 + 1 + 1 + 1, 0, none⟩ (.string ⟨#[]⟩)).heap.size) := Lib.hid (Nat.le_trans HSZy.out fst.size)
          clear fst hW4 e4 e31 e5 ez g4 g5 m4 m5 m31 c31 HRUN H1y HBX HATy HFRy HSZy
          gi_wp2
          obtain ⟨W5, hW5⟩ : ∃ W5, W4.setCell ⟨w.heap.size + 1 + 1 + 1 + 1 + 1 + 1, 0, none⟩ (.string ⟨#[]⟩) = W5 := ⟨_, rfl⟩
          rw [hW5] at H1z HBZ HATz HFRz HSZz ⊢
          clear hW5 c6 z6
          have HSHX : Hid (∀ w, Calls Tryz.prog 121 #[.string ⟨#[]⟩, .string x.key] w (PlainRet (.int .i64 (sh : Int)) w)) := Lib.hid fun w => by
            have q := bshared_c ⟨#[]⟩ x.key (Nat.zero_le _) (Nat.le_trans HXS.out.1 (by unfold maxLen; omega)) w
            have q2 : shL (bs ⟨#[]⟩) (bs x.key) = sh := by rw [HSHE.out, if_pos (by rw [hqm]; exact hq0)]; exact shL_nil _
            rw [q2] at q
            exact q
          have c6 := H1z.out.b6.cell 0
          have c5 := H1z.out.b5.cell 0
          have o0 := HATz.out.cell 0
          have o1 := HATz.out.cell 1
          have HBOC : Hid (∀ w, Calls Tryz.prog 144 #[.agg #[.string x.key, .string x.val], .int .i64 (sh : Int)] w (NewRow (oneB x sh) w)) := Lib.hid fun w => bytesOf_c x sh w HSHL.out (Nat.le_trans HXS.out.1 (by omega)) (Nat.le_trans HXS.out.2 (by omega))
          have HOL : Hid ((oneB x sh).length ≤ 300027) := Lib.hid (by
            have := HSHL.out
            have := HXS.out
            have q1 := enc_len9 (show sh < 9223372036854775808 by omega)
            have q2 := enc_len9 (show x.key.size - sh < 9223372036854775808 by omega)
            have q3 := enc_len9 (show x.val.size < 9223372036854775808 by omega)
            unfold oneB
            simp only [List.length_append, List.length_drop, bs_length]
            omega)
          gi_wp2
          refine wpIn_region_round (S := fun w' => w'.cell? ⟨w.heap.size + 1 + 1 + 1 + 1 + 1 + 1, 0, none⟩ = some (.string ⟨#[]⟩) ∧ w'.cell? ⟨O, 0, none⟩ = some (.string x.key) ∧ w'.cell? ⟨O, 1, none⟩ = some (.string x.val)) (by kernel_rfl) (by kernel_rfl) (fun h => by obtain ⟨_, _, h⟩ := h; exact h) ⟨c6, o0, o1⟩ (fun hSx => ?_)
          refine take_drop (i := 1) (v := ?v1_w45) rfl (by kernel_rfl) (by kernel_rfl) (by kernel_rfl) (fun _ _ _ h => h) (Or.inl ⟨by rfl, ?h1_w45⟩) hSx ?r1_w45
          case h1_w45 => (intro wS hSw; obtain ⟨s1, s2, s3⟩ := hSw; go_simp; all_goals (first | (with_reducible rfl) | (rw [if_neg (by omega)])))
          simp only [Act.put, List.setIfInBounds_toArray, List.set_cons_zero, List.set_cons_succ]
          refine take_drop (i := 2) (v := ?v2_w46) rfl (by kernel_rfl) (by kernel_rfl) (by kernel_rfl) (fun _ _ _ h => h) (Or.inl ⟨by rfl, ?h2_w46⟩) hSx ?r2_w46
          case h2_w46 => (intro wS hSw; obtain ⟨s1, s2, s3⟩ := hSw; go_simp; all_goals (first | (with_reducible rfl) | (rw [if_neg (by omega)])))
          simp only [Act.put, List.setIfInBounds_toArray, List.set_cons_zero, List.set_cons_succ]
          refine take_drop (i := 3) (v := ?v3_w47) rfl (by kernel_rfl) (by kernel_rfl) (by kernel_rfl) (fun _ _ _ h => h) (Or.inl ⟨by rfl, ?h3_w47⟩) hSx ?r3_w47
          case h3_w47 => (intro wS hSw; obtain ⟨s1, s2, s3⟩ := hSw; go_simp; all_goals (first | (with_reducible rfl) | (rw [if_neg (by omega)])))
          simp only [Act.put, List.setIfInBounds_toArray, List.set_cons_zero, List.set_cons_succ]
          refine take_drop (i := 4) (v := ?v4_w48) rfl (by kernel_rfl) (by kernel_rfl) (by kernel_rfl) (fun _ _ _ h => h) (Or.inl ⟨by rfl, ?h4_w48⟩) hSx ?r4_w48
          case h4_w48 => (intro wS hSw; obtain ⟨s1, s2, s3⟩ := hSw; go_simp; all_goals (first | (with_reducible rfl) | (rw [if_neg (by omega)])))
          simp only [Act.put, List.setIfInBounds_toArray, List.set_cons_zero, List.set_cons_succ]
          have HFB : Hid (Fr No W5 W5.drew) := Lib.hid ((Fr.refl No W5).drew)
          refine wpAnyH_ready (rs := [0, 5]) (by kernel_rfl) (by simp) ?_
          refine do_drop (i := 0) rfl (fun K hK => ?_) ?_
          · go_simp
            refine hK.out _ _ hSx ?_
            clear hK K
            try simp only [Act.put, List.setIfInBounds_toArray, List.set_cons_zero, List.set_cons_succ]
            refine wpAnyH_ready (rs := [5]) (by kernel_rfl) (by simp) ?_
            refine do_drop (i := 5) rfl (fun K hK => ?_) AllReadyH.nil
            go_simp
            refine (HSHX.out _).mono ?_
            rintro en Wa ⟨rfl, fa⟩
            have hSx := (show Wa.cell? ⟨w.heap.size + 1 + 1 + 1 + 1 + 1 + 1, 0, none⟩ = some (.string ⟨#[]⟩) ∧ Wa.cell? ⟨O, 0, none⟩ = some (.string x.key) ∧ Wa.cell? ⟨O, 1, none⟩ = some (.string x.val) from ⟨fa.cell hSx.1 (fun h => h), fa.cell hSx.2.1 (fun h => h), fa.cell hSx.2.2 (fun h => h)⟩)
            have c5 := fa.cell c5 (fun h => h)
            have HFA := Lib.hid (HFB.out.trans fa)
            refine hK.out _ _ hSx ?_
            clear fa
            clear hK K
            try simp only [Act.put, List.setIfInBounds_toArray, List.set_cons_zero, List.set_cons_succ]
            refine wpAnyH_ready (rs := [6]) (by kernel_rfl) (by simp) ?_
            refine do_drop (i := 6) rfl (fun K hK => ?_) AllReadyH.nil
            go_simp
            refine (HBOC.out _).mono ?_
            rintro en Wb ⟨vb, rfl, rb, fb⟩
            obtain ⟨ab, cb, rfl, _, _, inb⟩ := rb.form
            have FB := HFA.out.trans fb
            obtain ⟨vn, Wc, hrun, hbx, hfc⟩ := (HBZ.out.keep FB (fun _ h => h.elim)).more (Nat.le_trans HSZz.out FB.size) ab _ cb (oneB x sh) rfl inb.rd (by rw [HPNE.out]; have := HOL.out; have := HPL.out; omega)
            obtain ⟨ba3, bn3, bc3, rfl⟩ := hbx.out.shape
            have hSx := (show Wb.cell? ⟨w.heap.size + 1 + 1 + 1 + 1 + 1 + 1, 0, none⟩ = some (.string ⟨#[]⟩) ∧ Wb.cell? ⟨O, 0, none⟩ = some (.string x.key) ∧ Wb.cell? ⟨O, 1, none⟩ = some (.string x.val) from ⟨fb.cell hSx.1 (fun h => h), fb.cell hSx.2.1 (fun h => h), fb.cell hSx.2.2 (fun h => h)⟩)
            have c5 := fb.cell c5 (fun h => h)
            have HRUN := Lib.hid hrun
            have hnb : ∀ q, Own1 (.slice ba pn bc) q → w.heap.size + 7 ≤ q := fun q hq => by have := HBZ.out.newo q hq; have := K3.out; omega
            have H1u := Lib.hid ((H1z.out.keep FB (fun _ h => h.elim)).keep hfc hnb)
            have HATu := Lib.hid ((HATz.out.keep FB (fun h => h)).keep hfc (fun h => HBZ.out.notPair (.inl h) HATz.out))
            have HFRu := Lib.hid ((HFRz.out.then_ FB (fun _ _ h => h.elim)).then_ hfc (fun q hq h => .inr (.inr (.inr (.inl h)))))
            have HSZu : Hid (w1.heap.size ≤ Wc.heap.size) := Lib.hid (Nat.le_trans (Nat.le_trans HSZz.out FB.size) hfc.size)
            have HBXu : Hid (BX w1.heap.size Wc (.slice ba3 bn3 bc3) (.slice ra3 rn3 rc3) (pairsB e (l ++ [x]) (k + 1)) (nI (startsN e (l ++ [x]) (k + 1)))) := Lib.hid (by rw [HPS.out]; exact hbx)
            obtain ⟨ol, hol⟩ : ∃ ol, (oneB x sh).length = ol := ⟨_, rfl⟩
            rw [hol] at HRUN ⊢
            refine hK.out _ _ hSx ?_
            clear fb rb inb hrun hbx hfc hnb FB hol
            clear hK K
            try simp only [Act.put, List.setIfInBounds_toArray, List.set_cons_zero, List.set_cons_succ]
            refine wpAnyH_ready (rs := [7]) (by kernel_rfl) (by simp) ?_
            refine do_drop (i := 7) rfl (fun K hK => ?_) AllReadyH.nil
            rw [if_pos (by rfl)]
            refine oper_append_run _ _ 27 rfl rfl rfl HRUN.out ?_
            have u6 := H1u.out.b6.cell 0
            have u5 := H1u.out.b5.cell 0
            have y5 := H1u.out.b5.frozen 0
            have uo0 := HATu.out.cell 0
            have uo1 := HATu.out.cell 1
            refine hK.out _ _ ⟨u6, uo0, uo1⟩ ?_
            clear c5
            clear hK K
            try simp only [Act.put, List.setIfInBounds_toArray, List.set_cons_zero, List.set_cons_succ]
            refine wpAnyH_ready (rs := [8]) (by kernel_rfl) (by simp) ?_
            refine do_drop (i := 8) rfl (fun K hK => ?_) AllReadyH.nil
            go_simp
            have fst := fr_one Wc (w.heap.size + 1 + 1 + 1 + 1 + 1) 0 (.slice ba3 bn3 bc3)
            have H1v := Lib.hid (H1u.out.setB (.slice ba3 bn3 bc3))
            have HATv := Lib.hid (HATu.out.keep fst (fun h => by have h : O = w.heap.size + 1 + 1 + 1 + 1 + 1 := h; have := HO.out; have := K3.out; omega))
            have HFRv := Lib.hid (HFRu.out.then_ fst (fun q hq h => .inr (.inl h)))
            have HSZv : Hid (w1.heap.size ≤ (Wc.setCell ⟨w.heap.size + 1 + 1 + 1 + 1 + 1, 0, none⟩ (.slice ba3 bn3 bc3)).heap.size) := Lib.hid (Nat.le_trans HSZu.out fst.size)
            have HBXv := Lib.hid (HBXu.out.keep fst (fun q h => by have h : q = w.heap.size + 1 + 1 + 1 + 1 + 1 := h; have := K3.out; omega))
            obtain ⟨Wd, hWd⟩ : ∃ Wd, Wc.setCell ⟨w.heap.size + 1 + 1 + 1 + 1 + 1, 0, none⟩ (.slice ba3 bn3 bc3) = Wd := ⟨_, rfl⟩
            rw [hWd] at H1v HATv HFRv HSZv HBXv ⊢
            have u6 := H1v.out.b6.cell 0
            have uo0 := HATv.out.cell 0
            have uo1 := HATv.out.cell 1
            refine hK.out _ _ ⟨u6, uo0, uo1⟩ ?_
            clear hK K hSx u5 y5 fst hWd H1u HATu HFRu HSZu HBXu
            refine wpAnyH_done (by kernel_rfl) ?_ _
            have y6 := H1v.out.b6.frozen 0
            have fs6 := fr_one Wd (w.heap.size + 1 + 1 + 1 + 1 + 1 + 1) 0 (.string x.key)
            have H1a := Lib.hid (H1v.out.setAh x.key)
            have HBXa := Lib.hid (HBXv.out.keep fs6 (fun q h => by have h : q = w.heap.size + 1 + 1 + 1 + 1 + 1 + 1 := h; have := K3.out; omega))
            have HFRa := Lib.hid (HFRv.out.then_ fs6 (fun q hq h => .inr (.inr (.inl h))))
            have a4 := H1a.out.b4.cell 0
            have a32 := H1a.out.b3.cell 2
            have y32 := H1a.out.b3.frozen 2
            have fs7 := fr_one (Wd.setCell ⟨w.heap.size + 1 + 1 + 1 + 1 + 1 + 1, 0, none⟩ (.string x.key)) (w.heap.size + 1 + 1 + 1) 2 (.int .i64 ((k + 1 : Nat) : Int))
            have H1b := Lib.hid (H1a.out.setC (k + 1))
            have HBXb := Lib.hid (HBXa.out.keep fs7 (fun q h => by have h : q = w.heap.size + 1 + 1 + 1 := h; have := K3.out; omega))
            have HFRb := Lib.hid (HFRa.out.then_ fs7 (fun q hq h => .inl h))
            have HSZb : Hid (w1.heap.size ≤ ((Wd.setCell ⟨w.heap.size + 1 + 1 + 1 + 1 + 1 + 1, 0, none⟩ (.string x.key)).setCell ⟨w.heap.size + 1 + 1 + 1, 2, none⟩ (.int .i64 ((k + 1 : Nat) : Int))).heap.size) := Lib.hid (Nat.le_trans (Nat.le_trans HSZv.out fs6.size) fs7.size)
            have FIN : Hid (KeepsFrom w1.heap.size W _ ∧ Kq (fun q => q < w.heap.size) W _ ∧ PkI w w1 e L (pre ++ [z]) ((Wd.setCell ⟨w.heap.size + 1 + 1 + 1 + 1 + 1 + 1, 0, none⟩ (.string x.key)).setCell ⟨w.heap.size + 1 + 1 + 1, 2, none⟩ (.int .i64 ((k + 1 : Nat) : Int)))) := Lib.hid (by
              obtain ⟨kk1, kk2⟩ := pk_keeps H1.out H2.out (show w.heap.size ≤ w1.heap.size by have := K3.out; omega) HFRb.out
              refine ⟨kk1.from _, kk2, HPX.out _ ⟨.slice ra3 rn3 rc3, .slice ba3 bn3 bc3, ?_, ?_, HORD.out, ?_, HSZb.out⟩⟩
              · rw [HLEN.out, HKS.out]
                exact H1b.out
              · rw [HLEN.out]
                exact HBXb.out
              · refine H6.out.then_ HFRb.out (fun q hq h => ?_)
                rcases h with h | h | h | h | h
                · omega
                · omega
                · omega
                · have := H2.out.newo q h; have := K3.out; omega
                · have := H2.out.news q h; have := K3.out; omega)
            rw [show ((k + 1 : Nat) : Int) = (k : Int) + 1 from rfl] at FIN
            clear fs6 fs7 H1b HBXb HFRb HSZb H1a HBXa HFRa H1v HATv HFRv HSZv HBXv
            gi_wp2
            exact FIN.out
          refine do_drop (i := 5) rfl (fun K hK => ?_) AllReadyH.nil
          go_simp
          refine (HSHX.out _).mono ?_
          rintro en Wa ⟨rfl, fa⟩
          have hSx := (show Wa.cell? ⟨w.heap.size + 1 + 1 + 1 + 1 + 1 + 1, 0, none⟩ = some (.string ⟨#[]⟩) ∧ Wa.cell? ⟨O, 0, none⟩ = some (.string x.key) ∧ Wa.cell? ⟨O, 1, none⟩ = some (.string x.val) from ⟨fa.cell hSx.1 (fun h => h), fa.cell hSx.2.1 (fun h => h), fa.cell hSx.2.2 (fun h => h)⟩)
          have c5 := fa.cell c5 (fun h => h)
          have HFA := Lib.hid (HFB.out.trans fa)
          refine hK.out _ _ hSx ?_
          clear fa
          clear hK K
          try simp only [Act.put, List.setIfInBounds_toArray, List.set_cons_zero, List.set_cons_succ]
          refine wpAnyH_ready (rs := [0, 6]) (by kernel_rfl) (by simp) ?_
          refine do_drop (i := 0) rfl (fun K hK => ?_) ?_
          · go_simp
            refine hK.out _ _ hSx ?_
            clear hK K
            try simp only [Act.put, List.setIfInBounds_toArray, List.set_cons_zero, List.set_cons_succ]
            refine wpAnyH_ready (rs := [6]) (by kernel_rfl) (by simp) ?_
            refine do_drop (i := 6) rfl (fun K hK => ?_) AllReadyH.nil
            go_simp
            refine (HBOC.out _).mono ?_
            rintro en Wb ⟨vb, rfl, rb, fb⟩
            obtain ⟨ab, cb, rfl, _, _, inb⟩ := rb.form
            have FB := HFA.out.trans fb
            obtain ⟨vn, Wc, hrun, hbx, hfc⟩ := (HBZ.out.keep FB (fun _ h => h.elim)).more (Nat.le_trans HSZz.out FB.size) ab _ cb (oneB x sh) rfl inb.rd (by rw [HPNE.out]; have := HOL.out; have := HPL.out; omega)
            obtain ⟨ba3, bn3, bc3, rfl⟩ := hbx.out.shape
            have hSx := (show Wb.cell? ⟨w.heap.size + 1 + 1 + 1 + 1 + 1 + 1, 0, none⟩ = some (.string ⟨#[]⟩) ∧ Wb.cell? ⟨O, 0, none⟩ = some (.string x.key) ∧ Wb.cell? ⟨O, 1, none⟩ = some (.string x.val) from ⟨fb.cell hSx.1 (fun h => h), fb.cell hSx.2.1 (fun h => h), fb.cell hSx.2.2 (fun h => h)⟩)
            have c5 := fb.cell c5 (fun h => h)
            have HRUN := Lib.hid hrun
            have hnb : ∀ q, Own1 (.slice ba pn bc) q → w.heap.size + 7 ≤ q := fun q hq => by have := HBZ.out.newo q hq; have := K3.out; omega
            have H1u := Lib.hid ((H1z.out.keep FB (fun _ h => h.elim)).keep hfc hnb)
            have HATu := Lib.hid ((HATz.out.keep FB (fun h => h)).keep hfc (fun h => HBZ.out.notPair (.inl h) HATz.out))
            have HFRu := Lib.hid ((HFRz.out.then_ FB (fun _ _ h => h.elim)).then_ hfc (fun q hq h => .inr (.inr (.inr (.inl h)))))
            have HSZu : Hid (w1.heap.size ≤ Wc.heap.size) := Lib.hid (Nat.le_trans (Nat.le_trans HSZz.out FB.size) hfc.size)
            have HBXu : Hid (BX w1.heap.size Wc (.slice ba3 bn3 bc3) (.slice ra3 rn3 rc3) (pairsB e (l ++ [x]) (k + 1)) (nI (startsN e (l ++ [x]) (k + 1)))) := Lib.hid (by rw [HPS.out]; exact hbx)
            obtain ⟨ol, hol⟩ : ∃ ol, (oneB x sh).length = ol := ⟨_, rfl⟩
            rw [hol] at HRUN ⊢
            refine hK.out _ _ hSx ?_
            clear fb rb inb hrun hbx hfc hnb FB hol
            clear hK K
            try simp only [Act.put, List.setIfInBounds_toArray, List.set_cons_zero, List.set_cons_succ]
            refine wpAnyH_ready (rs := [7]) (by kernel_rfl) (by simp) ?_
            refine do_drop (i := 7) rfl (fun K hK => ?_) AllReadyH.nil
            rw [if_pos (by rfl)]
            refine oper_append_run _ _ 27 rfl rfl rfl HRUN.out ?_
            have u6 := H1u.out.b6.cell 0
            have u5 := H1u.out.b5.cell 0
            have y5 := H1u.out.b5.frozen 0
            have uo0 := HATu.out.cell 0
            have uo1 := HATu.out.cell 1
            refine hK.out _ _ ⟨u6, uo0, uo1⟩ ?_
            clear c5
            clear hK K
            try simp only [Act.put, List.setIfInBounds_toArray, List.set_cons_zero, List.set_cons_succ]
            refine wpAnyH_ready (rs := [8]) (by kernel_rfl) (by simp) ?_
            refine do_drop (i := 8) rfl (fun K hK => ?_) AllReadyH.nil
            go_simp
            have fst := fr_one Wc (w.heap.size + 1 + 1 + 1 + 1 + 1) 0 (.slice ba3 bn3 bc3)
            have H1v := Lib.hid (H1u.out.setB (.slice ba3 bn3 bc3))
            have HATv := Lib.hid (HATu.out.keep fst (fun h => by have h : O = w.heap.size + 1 + 1 + 1 + 1 + 1 := h; have := HO.out; have := K3.out; omega))
            have HFRv := Lib.hid (HFRu.out.then_ fst (fun q hq h => .inr (.inl h)))
            have HSZv : Hid (w1.heap.size ≤ (Wc.setCell ⟨w.heap.size + 1 + 1 + 1 + 1 + 1, 0, none⟩ (.slice ba3 bn3 bc3)).heap.size) := Lib.hid (Nat.le_trans HSZu.out fst.size)
            have HBXv := Lib.hid (HBXu.out.keep fst (fun q h => by have h : q = w.heap.size + 1 + 1 + 1 + 1 + 1 := h; have := K3.out; omega))
            obtain ⟨Wd, hWd⟩ : ∃ Wd, Wc.setCell ⟨w.heap.size + 1 + 1 + 1 + 1 + 1, 0, none⟩ (.slice ba3 bn3 bc3) = Wd := ⟨_, rfl⟩
            rw [hWd] at H1v HATv HFRv HSZv HBXv ⊢
            have u6 := H1v.out.b6.cell 0
            have uo0 := HATv.out.cell 0
            have uo1 := HATv.out.cell 1
            refine hK.out _ _ ⟨u6, uo0, uo1⟩ ?_
            clear hK K hSx u5 y5 fst hWd H1u HATu HFRu HSZu HBXu
            refine wpAnyH_done (by kernel_rfl) ?_ _
            have y6 := H1v.out.b6.frozen 0
            have fs6 := fr_one Wd (w.heap.size + 1 + 1 + 1 + 1 + 1 + 1) 0 (.string x.key)
            have H1a := Lib.hid (H1v.out.setAh x.key)
            have HBXa := Lib.hid (HBXv.out.keep fs6 (fun q h => by have h : q = w.heap.size + 1 + 1 + 1 + 1 + 1 + 1 := h; have := K3.out; omega))
            have HFRa := Lib.hid (HFRv.out.then_ fs6 (fun q hq h => .inr (.inr (.inl h))))
            have a4 := H1a.out.b4.cell 0
            have a32 := H1a.out.b3.cell 2
            have y32 := H1a.out.b3.frozen 2
            have fs7 := fr_one (Wd.setCell ⟨w.heap.size + 1 + 1 + 1 + 1 + 1 + 1, 0, none⟩ (.string x.key)) (w.heap.size + 1 + 1 + 1) 2 (.int .i64 ((k + 1 : Nat) : Int))
            have H1b := Lib.hid (H1a.out.setC (k + 1))
            have HBXb := Lib.hid (HBXa.out.keep fs7 (fun q h => by have h : q = w.heap.size + 1 + 1 + 1 := h; have := K3.out; omega))
            have HFRb := Lib.hid (HFRa.out.then_ fs7 (fun q hq h => .inl h))
            have HSZb : Hid (w1.heap.size ≤ ((Wd.setCell ⟨w.heap.size + 1 + 1 + 1 + 1 + 1 + 1, 0, none⟩ (.string x.key)).setCell ⟨w.heap.size + 1 + 1 + 1, 2, none⟩ (.int .i64 ((k + 1 : Nat) : Int))).heap.size) := Lib.hid (Nat.le_trans (Nat.le_trans HSZv.out fs6.size) fs7.size)
            have FIN : Hid (KeepsFrom w1.heap.size W _ ∧ Kq (fun q => q < w.heap.size) W _ ∧ PkI w w1 e L (pre ++ [z]) ((Wd.setCell ⟨w.heap.size + 1 + 1 + 1 + 1 + 1 + 1, 0, none⟩ (.string x.key)).setCell ⟨w.heap.size + 1 + 1 + 1, 2, none⟩ (.int .i64 ((k + 1 : Nat) : Int)))) := Lib.hid (by
              obtain ⟨kk1, kk2⟩ := pk_keeps H1.out H2.out (show w.heap.size ≤ w1.heap.size by have := K3.out; omega) HFRb.out
              refine ⟨kk1.from _, kk2, HPX.out _ ⟨.slice ra3 rn3 rc3, .slice ba3 bn3 bc3, ?_, ?_, HORD.out, ?_, HSZb.out⟩⟩
              · rw [HLEN.out, HKS.out]
                exact H1b.out
              · rw [HLEN.out]
                exact HBXb.out
              · refine H6.out.then_ HFRb.out (fun q hq h => ?_)
                rcases h with h | h | h | h | h
                · omega
                · omega
                · omega
                · have := H2.out.newo q h; have := K3.out; omega
                · have := H2.out.news q h; have := K3.out; omega)
            rw [show ((k + 1 : Nat) : Int) = (k : Int) + 1 from rfl] at FIN
            clear fs6 fs7 H1b HBXb HFRb HSZb H1a HBXa HFRa H1v HATv HFRv HSZv HBXv
            gi_wp2
            exact FIN.out
          refine do_drop (i := 6) rfl (fun K hK => ?_) AllReadyH.nil
          go_simp
          refine (HBOC.out _).mono ?_
          rintro en Wb ⟨vb, rfl, rb, fb⟩
          obtain ⟨ab, cb, rfl, _, _, inb⟩ := rb.form
          have FB := HFA.out.trans fb
          obtain ⟨vn, Wc, hrun, hbx, hfc⟩ := (HBZ.out.keep FB (fun _ h => h.elim)).more (Nat.le_trans HSZz.out FB.size) ab _ cb (oneB x sh) rfl inb.rd (by rw [HPNE.out]; have := HOL.out; have := HPL.out; omega)
          obtain ⟨ba3, bn3, bc3, rfl⟩ := hbx.out.shape
          have hSx := (show Wb.cell? ⟨w.heap.size + 1 + 1 + 1 + 1 + 1 + 1, 0, none⟩ = some (.string ⟨#[]⟩) ∧ Wb.cell? ⟨O, 0, none⟩ = some (.string x.key) ∧ Wb.cell? ⟨O, 1, none⟩ = some (.string x.val) from ⟨fb.cell hSx.1 (fun h => h), fb.cell hSx.2.1 (fun h => h), fb.cell hSx.2.2 (fun h => h)⟩)
          have c5 := fb.cell c5 (fun h => h)
          have HRUN := Lib.hid hrun
          have hnb : ∀ q, Own1 (.slice ba pn bc) q → w.heap.size + 7 ≤ q := fun q hq => by have := HBZ.out.newo q hq; have := K3.out; omega
          have H1u := Lib.hid ((H1z.out.keep FB (fun _ h => h.elim)).keep hfc hnb)
          have HATu := Lib.hid ((HATz.out.keep FB (fun h => h)).keep hfc (fun h => HBZ.out.notPair (.inl h) HATz.out))
          have HFRu := Lib.hid ((HFRz.out.then_ FB (fun _ _ h => h.elim)).then_ hfc (fun q hq h => .inr (.inr (.inr (.inl h)))))
          have HSZu : Hid (w1.heap.size ≤ Wc.heap.size) := Lib.hid (Nat.le_trans (Nat.le_trans HSZz.out FB.size) hfc.size)
          have HBXu : Hid (BX w1.heap.size Wc (.slice ba3 bn3 bc3) (.slice ra3 rn3 rc3) (pairsB e (l ++ [x]) (k + 1)) (nI (startsN e (l ++ [x]) (k + 1)))) := Lib.hid (by rw [HPS.out]; exact hbx)
          obtain ⟨ol, hol⟩ : ∃ ol, (oneB x sh).length = ol := ⟨_, rfl⟩
          rw [hol] at HRUN ⊢
          refine hK.out _ _ hSx ?_
          clear fb rb inb hrun hbx hfc hnb FB hol
          clear hK K
          try simp only [Act.put, List.setIfInBounds_toArray, List.set_cons_zero, List.set_cons_succ]
          refine wpAnyH_ready (rs := [0]) (by kernel_rfl) (by simp) ?_
          refine do_drop (i := 0) rfl (fun K hK => ?_) AllReadyH.nil
          go_simp
          refine hK.out _ _ hSx ?_
          clear hK K
          try simp only [Act.put, List.setIfInBounds_toArray, List.set_cons_zero, List.set_cons_succ]
          refine wpAnyH_ready (rs := [7]) (by kernel_rfl) (by simp) ?_
          refine do_drop (i := 7) rfl (fun K hK => ?_) AllReadyH.nil
          rw [if_pos (by rfl)]
          refine oper_append_run _ _ 27 rfl rfl rfl HRUN.out ?_
          have u6 := H1u.out.b6.cell 0
          have u5 := H1u.out.b5.cell 0
          have y5 := H1u.out.b5.frozen 0
          have uo0 := HATu.out.cell 0
          have uo1 := HATu.out.cell 1
          refine hK.out _ _ ⟨u6, uo0, uo1⟩ ?_
          clear c5
          clear hK K
          try simp only [Act.put, List.setIfInBounds_toArray, List.set_cons_zero, List.set_cons_succ]
          refine wpAnyH_ready (rs := [8]) (by kernel_rfl) (by simp) ?_
          refine do_drop (i := 8) rfl (fun K hK => ?_) AllReadyH.nil
          go_simp
          have fst := fr_one Wc (w.heap.size + 1 + 1 + 1 + 1 + 1) 0 (.slice ba3 bn3 bc3)
          have H1v := Lib.hid (H1u.out.setB (.slice ba3 bn3 bc3))
          have HATv := Lib.hid (HATu.out.keep fst (fun h => by have h : O = w.heap.size + 1 + 1 + 1 + 1 + 1 := h; have := HO.out; have := K3.out; omega))
          have HFRv := Lib.hid (HFRu.out.then_ fst (fun q hq h => .inr (.inl h)))
          have HSZv : Hid (w1.heap.size ≤ (Wc.setCell ⟨w.heap.size + 1 + 1 + 1 + 1 + 1, 0, none⟩ (.slice ba3 bn3 bc3)).heap.size) := Lib.hid (Nat.le_trans HSZu.out fst.size)
          have HBXv := Lib.hid (HBXu.out.keep fst (fun q h => by have h : q = w.heap.size + 1 + 1 + 1 + 1 + 1 := h; have := K3.out; omega))
          obtain ⟨Wd, hWd⟩ : ∃ Wd, Wc.setCell ⟨w.heap.size + 1 + 1 + 1 + 1 + 1, 0, none⟩ (.slice ba3 bn3 bc3) = Wd := ⟨_, rfl⟩
          rw [hWd] at H1v HATv HFRv HSZv HBXv ⊢
          have u6 := H1v.out.b6.cell 0
          have uo0 := HATv.out.cell 0
          have uo1 := HATv.out.cell 1
          refine hK.out _ _ ⟨u6, uo0, uo1⟩ ?_
          clear hK K hSx u5 y5 fst hWd H1u HATu HFRu HSZu HBXu
          refine wpAnyH_done (by kernel_rfl) ?_ _
          have y6 := H1v.out.b6.frozen 0
          have fs6 := fr_one Wd (w.heap.size + 1 + 1 + 1 + 1 + 1 + 1) 0 (.string x.key)
          have H1a := Lib.hid (H1v.out.setAh x.key)
          have HBXa := Lib.hid (HBXv.out.keep fs6 (fun q h => by have h : q = w.heap.size + 1 + 1 + 1 + 1 + 1 + 1 := h; have := K3.out; omega))
          have HFRa := Lib.hid (HFRv.out.then_ fs6 (fun q hq h => .inr (.inr (.inl h))))
          have a4 := H1a.out.b4.cell 0
          have a32 := H1a.out.b3.cell 2
          have y32 := H1a.out.b3.frozen 2
          have fs7 := fr_one (Wd.setCell ⟨w.heap.size + 1 + 1 + 1 + 1 + 1 + 1, 0, none⟩ (.string x.key)) (w.heap.size + 1 + 1 + 1) 2 (.int .i64 ((k + 1 : Nat) : Int))
          have H1b := Lib.hid (H1a.out.setC (k + 1))
          have HBXb := Lib.hid (HBXa.out.keep fs7 (fun q h => by have h : q = w.heap.size + 1 + 1 + 1 := h; have := K3.out; omega))
          have HFRb := Lib.hid (HFRa.out.then_ fs7 (fun q hq h => .inl h))
          have HSZb : Hid (w1.heap.size ≤ ((Wd.setCell ⟨w.heap.size + 1 + 1 + 1 + 1 + 1 + 1, 0, none⟩ (.string x.key)).setCell ⟨w.heap.size + 1 + 1 + 1, 2, none⟩ (.int .i64 ((k + 1 : Nat) : Int))).heap.size) := Lib.hid (Nat.le_trans (Nat.le_trans HSZv.out fs6.size) fs7.size)
          have FIN : Hid (KeepsFrom w1.heap.size W _ ∧ Kq (fun q => q < w.heap.size) W _ ∧ PkI w w1 e L (pre ++ [z]) ((Wd.setCell ⟨w.heap.size + 1 + 1 + 1 + 1 + 1 + 1, 0, none⟩ (.string x.key)).setCell ⟨w.heap.size + 1 + 1 + 1, 2, none⟩ (.int .i64 ((k + 1 : Nat) : Int)))) := Lib.hid (by
            obtain ⟨kk1, kk2⟩ := pk_keeps H1.out H2.out (show w.heap.size ≤ w1.heap.size by have := K3.out; omega) HFRb.out
            refine ⟨kk1.from _, kk2, HPX.out _ ⟨.slice ra3 rn3 rc3, .slice ba3 bn3 bc3, ?_, ?_, HORD.out, ?_, HSZb.out⟩⟩
            · rw [HLEN.out, HKS.out]
              exact H1b.out
            · rw [HLEN.out]
              exact HBXb.out
            · refine H6.out.then_ HFRb.out (fun q hq h => ?_)
              rcases h with h | h | h | h | h
              · omega
              · omega
              · omega
              · have := H2.out.newo q h; have := K3.out; omega
              · have := H2.out.news q h; have := K3.out; omega)
          rw [show ((k + 1 : Nat) : Int) = (k : Int) + 1 from rfl] at FIN
          clear fs6 fs7 H1b HBXb HFRb HSZb H1a HBXa HFRa H1v HATv HFRv HSZv HBXv
          gi_wp2
          exact FIN.out
        refine do_drop (i := 7) rfl (fun K hK => ?_) AllReadyH.nil
        go_simp
        refine hK.out _ _ ⟨m4, m5⟩ ?_
        clear hK K
        try simp only [Act.put, List.setIfInBounds_toArray, List.set_cons_zero, List.set_cons_succ]
        refine wpAnyH_ready (rs := [4]) (by kernel_rfl) (by simp) ?_
        refine do_drop (i := 4) rfl (fun K hK => ?_) AllReadyH.nil
        go_simp
        refine hK.out _ _ ⟨m4, m5⟩ ?_
        clear hK K
        try simp only [Act.put, List.setIfInBounds_toArray, List.set_cons_zero, List.set_cons_succ]
        refine wpAnyH_ready (rs := [8]) (by kernel_rfl) (by simp) ?_
        refine do_drop (i := 8) rfl (fun K hK => ?_) AllReadyH.nil
        rw [if_pos (by rfl)]
        refine oper_append_run _ _ 43 rfl rfl rfl HRUN.out ?_
        refine hK.out _ _ ⟨e4, e5⟩ ?_
        clear hK K hSx
        try simp only [Act.put, List.setIfInBounds_toArray, List.set_cons_zero, List.set_cons_succ]
        have hSx : W3.cell? ⟨w.heap.size + 1 + 1 + 1 + 1, 0, none⟩ = some (.pointer (some ⟨w.heap.size + 1 + 1 + 1, 0, none⟩)) ∧ W3.cell? ⟨w.heap.size + 1 + 1 + 1 + 1 + 1, 0, none⟩ = some (.slice ba pn bc) := ⟨e4, e5⟩
        refine take_drop (i := 9) (v := ?v9_w49) rfl (by kernel_rfl) (by kernel_rfl) (by kernel_rfl) (fun _ _ _ h => h) (Or.inl ⟨by rfl, ?h9_w49⟩) hSx ?r9_w49
        case h9_w49 => (intro wS hSw; obtain ⟨s1, s2⟩ := hSw; go_simp; all_goals (first | (with_reducible rfl) | (rw [if_neg (by omega)])))
        simp only [Act.put, List.setIfInBounds_toArray, List.set_cons_zero, List.set_cons_succ]
        refine take_drop (i := 10) (v := ?v10_w50) rfl (by kernel_rfl) (by kernel_rfl) (by kernel_rfl) (fun _ _ _ h => h) (Or.inl ⟨by rfl, ?h10_w50⟩) hSx ?r10_w50
        case h10_w50 => (intro wS hSw; obtain ⟨s1, s2⟩ := hSw; go_simp; all_goals (first | (with_reducible rfl) | (rw [if_neg (by omega)])))
        simp only [Act.put, List.setIfInBounds_toArray, List.set_cons_zero, List.set_cons_succ]
        refine wpAnyH_ready (rs := [11]) (by kernel_rfl) (by simp) ?_
        refine do_drop (i := 11) rfl (fun K hK => ?_) AllReadyH.nil
        go_simp
        refine hK.out _ _ ⟨g4, g5⟩ ?_
        clear hK K hSx
        refine wpAnyH_done (by kernel_rfl) ?_ _
        obtain ⟨W4, hW4⟩ : ∃ W4, W3.setCell ⟨w.heap.size + 1 + 1 + 1, 1, none⟩ (.slice ra3 rn3 rc3) = W4 := ⟨_, rfl⟩
        rw [hW4] at H1y HBX HATy HFRy HSZy ⊢
        have c6 := H1y.out.b6.cell 0
        have z6 := H1y.out.b6.frozen 0
        have fst := fr_one W4 (w.heap.size + 1 + 1 + 1 + 1 + 1 + 1) 0 (.string ⟨#[]⟩)
        have H1z : Hid (PkS w e (.slice ra3 rn3 rc3) (.slice ba pn bc) k ⟨#[]⟩ (W4.setCell ⟨w.heap.size + 1 + 1 + 1 + 1 + 1 + 1, 0, none⟩ (.string ⟨#[]⟩))) := Lib.hid (H1y.out.setAh ⟨#[]⟩)
        have HBZ := Lib.hid (HBX.out.keep fst (fun q h => by have h : q = w.heap.size + 1 + 1 + 1 + 1 + 1 + 1 := h; have := K3.out; omega))
        have HATz := Lib.hid (HATy.out.keep fst (fun h => by have h : O = w.heap.size + 1 + 1 + 1 + 1 + 1 + 1 := h; have := HO.out; have := K3.out; omega))
        have HFRz := Lib.hid (HFRy.out.then_ fst (fun q hq h => .inr (.inr (.inl h))))
        have HSZz : Hid (w1.heap.size ≤ (W4.setCell ⟨w.heap.size + 1 + 1 + 1 + 1 + 1 + 1, 0, none⟩ (.string ⟨#[]⟩)).heap.size) := Lib.hid (Nat.le_trans HSZy.out fst.size)
        clear fst hW4 e4 e31 e5 ez g4 g5 m4 m5 m31 c31 HRUN H1y HBX HATy HFRy HSZy
        gi_wp2
        obtain ⟨W5, hW5⟩ : ∃ W5, W4.setCell ⟨w.heap.size + 1 + 1 + 1 + 1 + 1 + 1, 0, none⟩ (.string ⟨#[]⟩) = W5 := ⟨_, rfl⟩
        rw [hW5] at H1z HBZ HATz HFRz HSZz ⊢
        clear hW5 c6 z6
        have HSHX : Hid (∀ w, Calls Tryz.prog 121 #[.string ⟨#[]⟩, .string x.key] w (PlainRet (.int .i64 (sh : Int)) w)) := Lib.hid fun w => by
          have q := bshared_c ⟨#[]⟩ x.key (Nat.zero_le _) (Nat.le_trans HXS.out.1 (by unfold maxLen; omega)) w
          have q2 : shL (bs ⟨#[]⟩) (bs x.key) = sh := by rw [HSHE.out, if_pos (by rw [hqm]; exact hq0)]; exact shL_nil _
          rw [q2] at q
          exact q
        have c6 := H1z.out.b6.cell 0
        have c5 := H1z.out.b5.cell 0
        have o0 := HATz.out.cell 0
        have o1 := HATz.out.cell 1
        have HBOC : Hid (∀ w, Calls Tryz.prog 144 #[.agg #[.string x.key, .string x.val], .int .i64 (sh : Int)] w (NewRow (oneB x sh) w)) := Lib.hid fun w => bytesOf_c x sh w HSHL.out (Nat.le_trans HXS.out.1 (by omega)) (Nat.le_trans HXS.out.2 (by omega))
        have HOL : Hid ((oneB x sh).length ≤ 300027) := Lib.hid (by
          have := HSHL.out
          have := HXS.out
          have q1 := enc_len9 (show sh < 9223372036854775808 by omega)
          have q2 := enc_len9 (show x.key.size - sh < 9223372036854775808 by omega)
          have q3 := enc_len9 (show x.val.size < 9223372036854775808 by omega)
          unfold oneB
          simp only [List.length_append, List.length_drop, bs_length]
          omega)
        gi_wp2
        refine wpIn_region_round (S := fun w' => w'.cell? ⟨w.heap.size + 1 + 1 + 1 + 1 + 1 + 1, 0, none⟩ = some (.string ⟨#[]⟩) ∧ w'.cell? ⟨O, 0, none⟩ = some (.string x.key) ∧ w'.cell? ⟨O, 1, none⟩ = some (.string x.val)) (by kernel_rfl) (by kernel_rfl) (fun h => by obtain ⟨_, _, h⟩ := h; exact h) ⟨c6, o0, o1⟩ (fun hSx => ?_)
        refine take_drop (i := 1) (v := ?v1_w51) rfl (by kernel_rfl) (by kernel_rfl) (by kernel_rfl) (fun _ _ _ h => h) (Or.inl ⟨by rfl, ?h1_w51⟩) hSx ?r1_w51
        case h1_w51 => (intro wS hSw; obtain ⟨s1, s2, s3⟩ := hSw; go_simp; all_goals (first | (with_reducible rfl) | (rw [if_neg (by omega)])))
        simp only [Act.put, List.setIfInBounds_toArray, List.set_cons_zero, List.set_cons_succ]
        refine take_drop (i := 2) (v := ?v2_w52) rfl (by kernel_rfl) (by kernel_rfl) (by kernel_rfl) (fun _ _ _ h => h) (Or.inl ⟨by rfl, ?h2_w52⟩) hSx ?r2_w52
        case h2_w52 => (intro wS hSw; obtain ⟨s1, s2, s3⟩ := hSw; go_simp; all_goals (first | (with_reducible rfl) | (rw [if_neg (by omega)])))
        simp only [Act.put, List.setIfInBounds_toArray, List.set_cons_zero, List.set_cons_succ]
        refine take_drop (i := 3) (v := ?v3_w53) rfl (by kernel_rfl) (by kernel_rfl) (by kernel_rfl) (fun _ _ _ h => h) (Or.inl ⟨by rfl, ?h3_w53⟩) hSx ?r3_w53
        case h3_w53 => (intro wS hSw; obtain ⟨s1, s2, s3⟩ := hSw; go_simp; all_goals (first | (with_reducible rfl) | (rw [if_neg (by omega)])))
        simp only [Act.put, List.setIfInBounds_toArray, List.set_cons_zero, List.set_cons_succ]
        refine take_drop (i := 4) (v := ?v4_w54) rfl (by kernel_rfl) (by kernel_rfl) (by kernel_rfl) (fun _ _ _ h => h) (Or.inl ⟨by rfl, ?h4_w54⟩) hSx ?r4_w54
        case h4_w54 => (intro wS hSw; obtain ⟨s1, s2, s3⟩ := hSw; go_simp; all_goals (first | (with_reducible rfl) | (rw [if_neg (by omega)])))
        simp only [Act.put, List.setIfInBounds_toArray, List.set_cons_zero, List.set_cons_succ]
        have HFB : Hid (Fr No W5 W5.drew) := Lib.hid ((Fr.refl No W5).drew)
        refine wpAnyH_ready (rs := [0, 5]) (by kernel_rfl) (by simp) ?_
        refine do_drop (i := 0) rfl (fun K hK => ?_) ?_
        · go_simp
          refine hK.out _ _ hSx ?_
          clear hK K
          try simp only [Act.put, List.setIfInBounds_toArray, List.set_cons_zero, List.set_cons_succ]
          refine wpAnyH_ready (rs := [5]) (by kernel_rfl) (by simp) ?_
          refine do_drop (i := 5) rfl (fun K hK => ?_) AllReadyH.nil
          go_simp
          refine (HSHX.out _).mono ?_
          rintro en Wa ⟨rfl, fa⟩
          have hSx := (show Wa.cell? ⟨w.heap.size + 1 + 1 + 1 + 1 + 1 + 1, 0, none⟩ = some (.string ⟨#[]⟩) ∧ Wa.cell? ⟨O, 0, none⟩ = some (.string x.key) ∧ Wa.cell? ⟨O, 1, none⟩ = some (.string x.val) from ⟨fa.cell hSx.1 (fun h => h), fa.cell hSx.2.1 (fun h => h), fa.cell hSx.2.2 (fun h => h)⟩)
          have c5 := fa.cell c5 (fun h => h)
          have HFA := Lib.hid (HFB.out.trans fa)
          refine hK.out _ _ hSx ?_
          clear fa
          clear hK K
          try simp only [Act.put, List.setIfInBounds_toArray, List.set_cons_zero, List.set_cons_succ]
          refine wpAnyH_ready (rs := [6]) (by kernel_rfl) (by simp) ?_
          refine do_drop (i := 6) rfl (fun K hK => ?_) AllReadyH.nil
          go_simp
          refine (HBOC.out _).mono ?_
          rintro en Wb ⟨vb, rfl, rb, fb⟩
          obtain ⟨ab, cb, rfl, _, _, inb⟩ := rb.form
          have FB := HFA.out.trans fb
          obtain ⟨vn, Wc, hrun, hbx, hfc⟩ := (HBZ.out.keep FB (fun _ h => h.elim)).more (Nat.le_trans HSZz.out FB.size) ab _ cb (oneB x sh) rfl inb.rd (by rw [HPNE.out]; have := HOL.out; have := HPL.out; omega)
          obtain ⟨ba3, bn3, bc3, rfl⟩ := hbx.out.shape
          have hSx := (show Wb.cell? ⟨w.heap.size + 1 + 1 + 1 + 1 + 1 + 1, 0, none⟩ = some (.string ⟨#[]⟩) ∧ Wb.cell? ⟨O, 0, none⟩ = some (.string x.key) ∧ Wb.cell? ⟨O, 1, none⟩ = some (.string x.val) from ⟨fb.cell hSx.1 (fun h => h), fb.cell hSx.2.1 (fun h => h), fb.cell hSx.2.2 (fun h => h)⟩)
          have c5 := fb.cell c5 (fun h => h)
          have HRUN := Lib.hid hrun
          have hnb : ∀ q, Own1 (.slice ba pn bc) q → w.heap.size + 7 ≤ q := fun q hq => by have := HBZ.out.newo q hq; have := K3.out; omega
          have H1u := Lib.hid ((H1z.out.keep FB (fun _ h => h.elim)).keep hfc hnb)
          have HATu := Lib.hid ((HATz.out.keep FB (fun h => h)).keep hfc (fun h => HBZ.out.notPair (.inl h) HATz.out))
          have HFRu := Lib.hid ((HFRz.out.then_ FB (fun _ _ h => h.elim)).then_ hfc (fun q hq h => .inr (.inr (.inr (.inl h)))))
          have HSZu : Hid (w1.heap.size ≤ Wc.heap.size) := Lib.hid (Nat.le_trans (Nat.le_trans HSZz.out FB.size) hfc.size)
          have HBXu : Hid (BX w1.heap.size Wc (.slice ba3 bn3 bc3) (.slice ra3 rn3 rc3) (pairsB e (l ++ [x]) (k + 1)) (nI (startsN e (l ++ [x]) (k + 1)))) := Lib.hid (by rw [HPS.out]; exact hbx)
          obtain ⟨ol, hol⟩ : ∃ ol, (oneB x sh).length = ol := ⟨_, rfl⟩
          rw [hol] at HRUN ⊢
          refine hK.out _ _ hSx ?_
          clear fb rb inb hrun hbx hfc hnb FB hol
          clear hK K
          try simp only [Act.put, List.setIfInBounds_toArray, List.set_cons_zero, List.set_cons_succ]
          refine wpAnyH_ready (rs := [7]) (by kernel_rfl) (by simp) ?_
          refine do_drop (i := 7) rfl (fun K hK => ?_) AllReadyH.nil
          rw [if_pos (by rfl)]
          refine oper_append_run _ _ 27 rfl rfl rfl HRUN.out ?_
          have u6 := H1u.out.b6.cell 0
          have u5 := H1u.out.b5.cell 0
          have y5 := H1u.out.b5.frozen 0
          have uo0 := HATu.out.cell 0
          have uo1 := HATu.out.cell 1
          refine hK.out _ _ ⟨u6, uo0, uo1⟩ ?_
          clear c5
          clear hK K
          try simp only [Act.put, List.setIfInBounds_toArray, List.set_cons_zero, List.set_cons_succ]
          refine wpAnyH_ready (rs := [8]) (by kernel_rfl) (by simp) ?_
          refine do_drop (i := 8) rfl (fun K hK => ?_) AllReadyH.nil
          go_simp
          have fst := fr_one Wc (w.heap.size + 1 + 1 + 1 + 1 + 1) 0 (.slice ba3 bn3 bc3)
          have H1v := Lib.hid (H1u.out.setB (.slice ba3 bn3 bc3))
          have HATv := Lib.hid (HATu.out.keep fst (fun h => by have h : O = w.heap.size + 1 + 1 + 1 + 1 + 1 := h; have := HO.out; have := K3.out; omega))
          have HFRv := Lib.hid (HFRu.out.then_ fst (fun q hq h => .inr (.inl h)))
          have HSZv : Hid (w1.heap.size ≤ (Wc.setCell ⟨w.heap.size + 1 + 1 + 1 + 1 + 1, 0, none⟩ (.slice ba3 bn3 bc3)).heap.size) := Lib.hid (Nat.le_trans HSZu.out fst.size)
          have HBXv := Lib.hid (HBXu.out.keep fst (fun q h => by have h : q = w.heap.size + 1 + 1 + 1 + 1 + 1 := h; have := K3.out; omega))
          obtain ⟨Wd, hWd⟩ : ∃ Wd, Wc.setCell ⟨w.heap.size + 1 + 1 + 1 + 1 + 1, 0, none⟩ (.slice ba3 bn3 bc3) = Wd := ⟨_, rfl⟩
          rw [hWd] at H1v HATv HFRv HSZv HBXv ⊢
          have u6 := H1v.out.b6.cell 0
          have uo0 := HATv.out.cell 0
          have uo1 := HATv.out.cell 1
          refine hK.out _ _ ⟨u6, uo0, uo1⟩ ?_
          clear hK K hSx u5 y5 fst hWd H1u HATu HFRu HSZu HBXu
          refine wpAnyH_done (by kernel_rfl) ?_ _
          have y6 := H1v.out.b6.frozen 0
          have fs6 := fr_one Wd (w.heap.size + 1 + 1 + 1 + 1 + 1 + 1) 0 (.string x.key)
          have H1a := Lib.hid (H1v.out.setAh x.key)
          have HBXa := Lib.hid (HBXv.out.keep fs6 (fun q h => by have h : q = w.heap.size + 1 + 1 + 1 + 1 + 1 + 1 := h; have := K3.out; omega))
          have HFRa := Lib.hid (HFRv.out.then_ fs6 (fun q hq h => .inr (.inr (.inl h))))
          have a4 := H1a.out.b4.cell 0
          have a32 := H1a.out.b3.cell 2
          have y32 := H1a.out.b3.frozen 2
          have fs7 := fr_one (Wd.setCell ⟨w.heap.size + 1 + 1 + 1 + 1 + 1 + 1, 0, none⟩ (.string x.key)) (w.heap.size + 1 + 1 + 1) 2 (.int .i64 ((k + 1 : Nat) : Int))
          have H1b := Lib.hid (H1a.out.setC (k + 1))
          have HBXb := Lib.hid (HBXa.out.keep fs7 (fun q h => by have h : q = w.heap.size + 1 + 1 + 1 := h; have := K3.out; omega))
          have HFRb := Lib.hid (HFRa.out.then_ fs7 (fun q hq h => .inl h))
          have HSZb : Hid (w1.heap.size ≤ ((Wd.setCell ⟨w.heap.size + 1 + 1 + 1 + 1 + 1 + 1, 0, none⟩ (.string x.key)).setCell ⟨w.heap.size + 1 + 1 + 1, 2, none⟩ (.int .i64 ((k + 1 : Nat) : Int))).heap.size) := Lib.hid (Nat.le_trans (Nat.le_trans HSZv.out fs6.size) fs7.size)
          have FIN : Hid (KeepsFrom w1.heap.size W _ ∧ Kq (fun q => q < w.heap.size) W _ ∧ PkI w w1 e L (pre ++ [z]) ((Wd.setCell ⟨w.heap.size + 1 + 1 + 1 + 1 + 1 + 1, 0, none⟩ (.string x.key)).setCell ⟨w.heap.size + 1 + 1 + 1, 2, none⟩ (.int .i64 ((k + 1 : Nat) : Int)))) := Lib.hid (by
            obtain ⟨kk1, kk2⟩ := pk_keeps H1.out H2.out (show w.heap.size ≤ w1.heap.size by have := K3.out; omega) HFRb.out
            refine ⟨kk1.from _, kk2, HPX.out _ ⟨.slice ra3 rn3 rc3, .slice ba3 bn3 bc3, ?_, ?_, HORD.out, ?_, HSZb.out⟩⟩
            · rw [HLEN.out, HKS.out]
              exact H1b.out
            · rw [HLEN.out]
              exact HBXb.out
            · refine H6.out.then_ HFRb.out (fun q hq h => ?_)
              rcases h with h | h | h | h | h
              · omega
              · omega
              · omega
              · have := H2.out.newo q h; have := K3.out; omega
              · have := H2.out.news q h; have := K3.out; omega)
          rw [show ((k + 1 : Nat) : Int) = (k : Int) + 1 from rfl] at FIN
          clear fs6 fs7 H1b HBXb HFRb HSZb H1a HBXa HFRa H1v HATv HFRv HSZv HBXv
          gi_wp2
          exact FIN.out
        refine do_drop (i := 5) rfl (fun K hK => ?_) AllReadyH.nil
        go_simp
        refine (HSHX.out _).mono ?_
        rintro en Wa ⟨rfl, fa⟩
        have hSx := (show Wa.cell? ⟨w.heap.size + 1 + 1 + 1 + 1 + 1 + 1, 0, none⟩ = some (.string ⟨#[]⟩) ∧ Wa.cell? ⟨O, 0, none⟩ = some (.string x.key) ∧ Wa.cell? ⟨O, 1, none⟩ = some (.string x.val) from ⟨fa.cell hSx.1 (fun h => h), fa.cell hSx.2.1 (fun h => h), fa.cell hSx.2.2 (fun h => h)⟩)
        have c5 := fa.cell c5 (fun h => h)
        have HFA := Lib.hid (HFB.out.trans fa)
        refine hK.out _ _ hSx ?_
        clear fa
        clear hK K
        try simp only [Act.put, List.setIfInBounds_toArray, List.set_cons_zero, List.set_cons_succ]
        refine wpAnyH_ready (rs := [0, 6]) (by kernel_rfl) (by simp) ?_
        refine do_drop (i := 0) rfl (fun K hK => ?_) ?_
        · go_simp
          refine hK.out _ _ hSx ?_
          clear hK K
          try simp only [Act.put, List.setIfInBounds_toArray, List.set_cons_zero, List.set_cons_succ]
          refine wpAnyH_ready (rs := [6]) (by kernel_rfl) (by simp) ?_
          refine do_drop (i := 6) rfl (fun K hK => ?_) AllReadyH.nil
          go_simp
          refine (HBOC.out _).mono ?_
          rintro en Wb ⟨vb, rfl, rb, fb⟩
          obtain ⟨ab, cb, rfl, _, _, inb⟩ := rb.form
          have FB := HFA.out.trans fb
          obtain ⟨vn, Wc, hrun, hbx, hfc⟩ := (HBZ.out.keep FB (fun _ h => h.elim)).more (Nat.le_trans HSZz.out FB.size) ab _ cb (oneB x sh) rfl inb.rd (by rw [HPNE.out]; have := HOL.out; have := HPL.out; omega)
          obtain ⟨ba3, bn3, bc3, rfl⟩ := hbx.out.shape
          have hSx := (show Wb.cell? ⟨w.heap.size + 1 + 1 + 1 + 1 + 1 + 1, 0, none⟩ = some (.string ⟨#[]⟩) ∧ Wb.cell? ⟨O, 0, none⟩ = some (.string x.key) ∧ Wb.cell? ⟨O, 1, none⟩ = some (.string x.val) from ⟨fb.cell hSx.1 (fun h => h), fb.cell hSx.2.1 (fun h => h), fb.cell hSx.2.2 (fun h => h)⟩)
          have c5 := fb.cell c5 (fun h => h)
          have HRUN := Lib.hid hrun
          have hnb : ∀ q, Own1 (.slice ba pn bc) q → w.heap.size + 7 ≤ q := fun q hq => by have := HBZ.out.newo q hq; have := K3.out; omega
          have H1u := Lib.hid ((H1z.out.keep FB (fun _ h => h.elim)).keep hfc hnb)
          have HATu := Lib.hid ((HATz.out.keep FB (fun h => h)).keep hfc (fun h => HBZ.out.notPair (.inl h) HATz.out))
          have HFRu := Lib.hid ((HFRz.out.then_ FB (fun _ _ h => h.elim)).then_ hfc (fun q hq h => .inr (.inr (.inr (.inl h)))))
          have HSZu : Hid (w1.heap.size ≤ Wc.heap.size) := Lib.hid (Nat.le_trans (Nat.le_trans HSZz.out FB.size) hfc.size)
          have HBXu : Hid (BX w1.heap.size Wc (.slice ba3 bn3 bc3) (.slice ra3 rn3 rc3) (pairsB e (l ++ [x]) (k + 1)) (nI (startsN e (l ++ [x]) (k + 1)))) := Lib.hid (by rw [HPS.out]; exact hbx)
          obtain ⟨ol, hol⟩ : ∃ ol, (oneB x sh).length = ol := ⟨_, rfl⟩
          rw [hol] at HRUN ⊢
          refine hK.out _ _ hSx ?_
          clear fb rb inb hrun hbx hfc hnb FB hol
          clear hK K
          try simp only [Act.put, List.setIfInBounds_toArray, List.set_cons_zero, List.set_cons_succ]
          refine wpAnyH_ready (rs := [7]) (by kernel_rfl) (by simp) ?_
          refine do_drop (i := 7) rfl (fun K hK => ?_) AllReadyH.nil
          rw [if_pos (by rfl)]
          refine oper_append_run _ _ 27 rfl rfl rfl HRUN.out ?_
          have u6 := H1u.out.b6.cell 0
          have u5 := H1u.out.b5.cell 0
          have y5 := H1u.out.b5.frozen 0
          have uo0 := HATu.out.cell 0
          have uo1 := HATu.out.cell 1
          refine hK.out _ _ ⟨u6, uo0, uo1⟩ ?_
          clear c5
          clear hK K
          try simp only [Act.put, List.setIfInBounds_toArray, List.set_cons_zero, List.set_cons_succ]
          refine wpAnyH_ready (rs := [8]) (by kernel_rfl) (by simp) ?_
          refine do_drop (i := 8) rfl (fun K hK => ?_) AllReadyH.nil
          go_simp
          have fst := fr_one Wc (w.heap.size + 1 + 1 + 1 + 1 + 1) 0 (.slice ba3 bn3 bc3)
          have H1v := Lib.hid (H1u.out.setB (.slice ba3 bn3 bc3))
          have HATv := Lib.hid (HATu.out.keep fst (fun h => by have h : O = w.heap.size + 1 + 1 + 1 + 1 + 1 := h; have := HO.out; have := K3.out; omega))
          have HFRv := Lib.hid (HFRu.out.then_ fst (fun q hq h => .inr (.inl h)))
          have HSZv : Hid (w1.heap.size ≤ (Wc.setCell ⟨w.heap.size + 1 + 1 + 1 + 1 + 1, 0, none⟩ (.slice ba3 bn3 bc3)).heap.size) := Lib.hid (Nat.le_trans HSZu.out fst.size)
          have HBXv := Lib.hid (HBXu.out.keep fst (fun q h => by have h : q = w.heap.size + 1 + 1 + 1 + 1 + 1 := h; have := K3.out; omega))
          obtain ⟨Wd, hWd⟩ : ∃ Wd, Wc.setCell ⟨w.heap.size + 1 + 1 + 1 + 1 + 1, 0, none⟩ (.slice ba3 bn3 bc3) = Wd := ⟨_, rfl⟩
          rw [hWd] at H1v HATv HFRv HSZv HBXv ⊢
          have u6 := H1v.out.b6.cell 0
          have uo0 := HATv.out.cell 0
          have uo1 := HATv.out.cell 1
          refine hK.out _ _ ⟨u6, uo0, uo1⟩ ?_
          clear hK K hSx u5 y5 fst hWd H1u HATu HFRu HSZu HBXu
          refine wpAnyH_done (by kernel_rfl) ?_ _
          have y6 := H1v.out.b6.frozen 0
          have fs6 := fr_one Wd (w.heap.size + 1 + 1 + 1 + 1 + 1 + 1) 0 (.string x.key)
          have H1a := Lib.hid (H1v.out.setAh x.key)
          have HBXa := Lib.hid (HBXv.out.keep fs6 (fun q h => by have h : q = w.heap.size + 1 + 1 + 1 + 1 + 1 + 1 := h; have := K3.out; omega))
          have HFRa := Lib.hid (HFRv.out.then_ fs6 (fun q hq h => .inr (.inr (.inl h))))
          have a4 := H1a.out.b4.cell 0
          have a32 := H1a.out.b3.cell 2
          have y32 := H1a.out.b3.frozen 2
          have fs7 := fr_one (Wd.setCell ⟨w.heap.size + 1 + 1 + 1 + 1 + 1 + 1, 0, none⟩ (.string x.key)) (w.heap.size + 1 + 1 + 1) 2 (.int .i64 ((k + 1 : Nat) : Int))
          have H1b := Lib.hid (H1a.out.setC (k + 1))
          have HBXb := Lib.hid (HBXa.out.keep fs7 (fun q h => by have h : q = w.heap.size + 1 + 1 + 1 := h; have := K3.out; omega))
          have HFRb := Lib.hid (HFRa.out.then_ fs7 (fun q hq h => .inl h))
          have HSZb : Hid (w1.heap.size ≤ ((Wd.setCell ⟨w.heap.size + 1 + 1 + 1 + 1 + 1 + 1, 0, none⟩ (.string x.key)).setCell ⟨w.heap.size + 1 + 1 + 1, 2, none⟩ (.int .i64 ((k + 1 : Nat) : Int))).heap.size) := Lib.hid (Nat.le_trans (Nat.le_trans HSZv.out fs6.size) fs7.size)
          have FIN : Hid (KeepsFrom w1.heap.size W _ ∧ Kq (fun q => q < w.heap.size) W _ ∧ PkI w w1 e L (pre ++ [z]) ((Wd.setCell ⟨w.heap.size + 1 + 1 + 1 + 1 + 1 + 1, 0, none⟩ (.string x.key)).setCell ⟨w.heap.size + 1 + 1 + 1, 2, none⟩ (.int .i64 ((k + 1 : Nat) : Int)))) := Lib.hid (by
            obtain ⟨kk1, kk2⟩ := pk_keeps H1.out H2.out (show w.heap.size ≤ w1.heap.size by have := K3.out; omega) HFRb.out
            refine ⟨kk1.from _, kk2, HPX.out _ ⟨.slice ra3 rn3 rc3, .slice ba3 bn3 bc3, ?_, ?_, HORD.out, ?_, HSZb.out⟩⟩
            · rw [HLEN.out, HKS.out]
              exact H1b.out
            · rw [HLEN.out]
              exact HBXb.out
            · refine H6.out.then_ HFRb.out (fun q hq h => ?_)
              rcases h with h | h | h | h | h
              · omega
              · omega
              · omega
              · have := H2.out.newo q h; have := K3.out; omega
              · have := H2.out.news q h; have := K3.out; omega)
          rw [show ((k + 1 : Nat) : Int) = (k : Int) + 1 from rfl] at FIN
          clear fs6 fs7 H1b HBXb HFRb HSZb H1a HBXa HFRa H1v HATv HFRv HSZv HBXv
          gi_wp2
          exact FIN.out
        refine do_drop (i := 6) rfl (fun K hK => ?_) AllReadyH.nil
        go_simp
        refine (HBOC.out _).mono ?_
        rintro en Wb ⟨vb, rfl, rb, fb⟩
        obtain ⟨ab, cb, rfl, _, _, inb⟩ := rb.form
        have FB := HFA.out.trans fb
        obtain ⟨vn, Wc, hrun, hbx, hfc⟩ := (HBZ.out.keep FB (fun _ h => h.elim)).more (Nat.le_trans HSZz.out FB.size) ab _ cb (oneB x sh) rfl inb.rd (by rw [HPNE.out]; have := HOL.out; have := HPL.out; omega)
        obtain ⟨ba3, bn3, bc3, rfl⟩ := hbx.out.shape
        have hSx := (show Wb.cell? ⟨w.heap.size + 1 + 1 + 1 + 1 + 1 + 1, 0, none⟩ = some (.string ⟨#[]⟩) ∧ Wb.cell? ⟨O, 0, none⟩ = some (.string x.key) ∧ Wb.cell? ⟨O, 1, none⟩ = some (.string x.val) from ⟨fb.cell hSx.1 (fun h => h), fb.cell hSx.2.1 (fun h => h), fb.cell hSx.2.2 (fun h => h)⟩)
        have c5 := fb.cell c5 (fun h => h)
        have HRUN := Lib.hid hrun
        have hnb : ∀ q, Own1 (.slice ba pn bc) q → w.heap.size + 7 ≤ q := fun q hq => by have := HBZ.out.newo q hq; have := K3.out; omega
        have H1u := Lib.hid ((H1z.out.keep FB (fun _ h => h.elim)).keep hfc hnb)
        have HATu := Lib.hid ((HATz.out.keep FB (fun h => h)).keep hfc (fun h => HBZ.out.notPair (.inl h) HATz.out))
        have HFRu := Lib.hid ((HFRz.out.then_ FB (fun _ _ h => h.elim)).then_ hfc (fun q hq h => .inr (.inr (.inr (.inl h)))))
        have HSZu : Hid (w1.heap.size ≤ Wc.heap.size) := Lib.hid (Nat.le_trans (Nat.le_trans HSZz.out FB.size) hfc.size)
        have HBXu : Hid (BX w1.heap.size Wc (.slice ba3 bn3 bc3) (.slice ra3 rn3 rc3) (pairsB e (l ++ [x]) (k + 1)) (nI (startsN e (l ++ [x]) (k + 1)))) := Lib.hid (by rw [HPS.out]; exact hbx)
        obtain ⟨ol, hol⟩ : ∃ ol, (oneB x sh).length = ol := ⟨_, rfl⟩
        rw [hol] at HRUN ⊢
        refine hK.out _ _ hSx ?_
        clear fb rb inb hrun hbx hfc hnb FB hol
        clear hK K
        try simp only [Act.put, List.setIfInBounds_toArray, List.set_cons_zero, List.set_cons_succ]
        refine wpAnyH_ready (rs := [0]) (by kernel_rfl) (by simp) ?_
        refine do_drop (i := 0) rfl (fun K hK => ?_) AllReadyH.nil
        go_simp
        refine hK.out _ _ hSx ?_
        clear hK K
        try simp only [Act.put, List.setIfInBounds_toArray, List.set_cons_zero, List.set_cons_succ]
        refine wpAnyH_ready (rs := [7]) (by kernel_rfl) (by simp) ?_
        refine do_drop (i := 7) rfl (fun K hK => ?_) AllReadyH.nil
        rw [if_pos (by rfl)]
        refine oper_append_run _ _ 27 rfl rfl rfl HRUN.out ?_
        have u6 := H1u.out.b6.cell 0
        have u5 := H1u.out.b5.cell 0
        have y5 := H1u.out.b5.frozen 0
        have uo0 := HATu.out.cell 0
        have uo1 := HATu.out.cell 1
        refine hK.out _ _ ⟨u6, uo0, uo1⟩ ?_
        clear c5
        clear hK K
        try simp only [Act.put, List.setIfInBounds_toArray, List.set_cons_zero, List.set_cons_succ]
        refine wpAnyH_ready (rs := [8]) (by kernel_rfl) (by simp) ?_
        refine do_drop (i := 8) rfl (fun K hK => ?_) AllReadyH.nil
        go_simp
        have fst := fr_one Wc (w.heap.size + 1 + 1 + 1 + 1 + 1) 0 (.slice ba3 bn3 bc3)
        have H1v := Lib.hid (H1u.out.setB (.slice ba3 bn3 bc3))
        have HATv := Lib.hid (HATu.out.keep fst (fun h => by have h : O = w.heap.size + 1 + 1 + 1 + 1 + 1 := h; have := HO.out; have := K3.out; omega))
        have HFRv := Lib.hid (HFRu.out.then_ fst (fun q hq h => .inr (.inl h)))
        have HSZv : Hid (w1.heap.size ≤ (Wc.setCell ⟨w.heap.size + 1 + 1 + 1 + 1 + 1, 0, none⟩ (.slice ba3 bn3 bc3)).heap.size) := Lib.hid (Nat.le_trans HSZu.out fst.size)
        have HBXv := Lib.hid (HBXu.out.keep fst (fun q h => by have h : q = w.heap.size + 1 + 1 + 1 + 1 + 1 := h; have := K3.out; omega))
        obtain ⟨Wd, hWd⟩ : ∃ Wd, Wc.setCell ⟨w.heap.size + 1 + 1 + 1 + 1 + 1, 0, none⟩ (.slice ba3 bn3 bc3) = Wd := ⟨_, rfl⟩
        rw [hWd] at H1v HATv HFRv HSZv HBXv ⊢
        have u6 := H1v.out.b6.cell 0
        have uo0 := HATv.out.cell 0
        have uo1 := HATv.out.cell 1
        refine hK.out _ _ ⟨u6, uo0, uo1⟩ ?_
        clear hK K hSx u5 y5 fst hWd H1u HATu HFRu HSZu HBXu
        refine wpAnyH_done (by kernel_rfl) ?_ _
        have y6 := H1v.out.b6.frozen 0
        have fs6 := fr_one Wd (w.heap.size + 1 + 1 + 1 + 1 + 1 + 1) 0 (.string x.key)
        have H1a := Lib.hid (H1v.out.setAh x.key)
        have HBXa := Lib.hid (HBXv.out.keep fs6 (fun q h => by have h : q = w.heap.size + 1 + 1 + 1 + 1 + 1 + 1 := h; have := K3.out; omega))
        have HFRa := Lib.hid (HFRv.out.then_ fs6 (fun q hq h => .inr (.inr (.inl h))))
        have a4 := H1a.out.b4.cell 0
        have a32 := H1a.out.b3.cell 2
        have y32 := H1a.out.b3.frozen 2
        have fs7 := fr_one (Wd.setCell ⟨w.heap.size + 1 + 1 + 1 + 1 + 1 + 1, 0, none⟩ (.string x.key)) (w.heap.size + 1 + 1 + 1) 2 (.int .i64 ((k + 1 : Nat) : Int))
        have H1b := Lib.hid (H1a.out.setC (k + 1))
        have HBXb := Lib.hid (HBXa.out.keep fs7 (fun q h => by have h : q = w.heap.size + 1 + 1 + 1 := h; have := K3.out; omega))
        have HFRb := Lib.hid (HFRa.out.then_ fs7 (fun q hq h => .inl h))
        have HSZb : Hid (w1.heap.size ≤ ((Wd.setCell ⟨w.heap.size + 1 + 1 + 1 + 1 + 1 + 1, 0, none⟩ (.string x.key)).setCell ⟨w.heap.size + 1 + 1 + 1, 2, none⟩ (.int .i64 ((k + 1 : Nat) : Int))).heap.size) := Lib.hid (Nat.le_trans (Nat.le_trans HSZv.out fs6.size) fs7.size)
        have FIN : Hid (KeepsFrom w1.heap.size W _ ∧ Kq (fun q => q < w.heap.size) W _ ∧ PkI w w1 e L (pre ++ [z]) ((Wd.setCell ⟨w.heap.size + 1 + 1 + 1 + 1 + 1 + 1, 0, none⟩ (.string x.key)).setCell ⟨w.heap.size + 1 + 1 + 1, 2, none⟩ (.int .i64 ((k + 1 : Nat) : Int)))) := Lib.hid (by
          obtain ⟨kk1, kk2⟩ := pk_keeps H1.out H2.out (show w.heap.size ≤ w1.heap.size by have := K3.out; omega) HFRb.out
          refine ⟨kk1.from _, kk2, HPX.out _ ⟨.slice ra3 rn3 rc3, .slice ba3 bn3 bc3, ?_, ?_, HORD.out, ?_, HSZb.out⟩⟩
          · rw [HLEN.out, HKS.out]
            exact H1b.out
          · rw [HLEN.out]
            exact HBXb.out
          · refine H6.out.then_ HFRb.out (fun q hq h => ?_)
            rcases h with h | h | h | h | h
            · omega
            · omega
            · omega
            · have := H2.out.newo q h; have := K3.out; omega
            · have := H2.out.news q h; have := K3.out; omega)
        rw [show ((k + 1 : Nat) : Int) = (k : Int) + 1 from rfl] at FIN
        clear fs6 fs7 H1b HBXb HFRb HSZb H1a HBXa HFRa H1v HATv HFRv HSZv HBXv
        gi_wp2
        exact FIN.out
      · have hrem : ((qm : Int) == 0) = false := by rw [beq_eq_false_iff_ne]; omega
        obtain ⟨W5, hW5⟩ : ∃ W5, W1 = W5 := ⟨_, rfl⟩
        have HBZ : Hid (BX w1.heap.size W1 (.slice ba pn bc) (.slice ra rn rc) (pairsB e l k) (nI (startsN e (l ++ [x]) (k + 1)))) := Lib.hid (by
          rw [HSS.out, if_neg (by rw [hqm]; exact hq0)]
          exact H2w.out)
        have H1z := H1w
        have HATz := HATw
        have HFRz := HFR
        have HSZz := HSZ
        clear H1w HATw HFR HSZ H2w
        rw [hW5] at HBZ H1z HATz HFRz HSZz ⊢
        clear hW5
        have HSHX : Hid (∀ w, Calls Tryz.prog 121 #[.string ah, .string x.key] w (PlainRet (.int .i64 (sh : Int)) w)) := Lib.hid fun w => by
          have q := bshared_c ah x.key (Nat.le_trans HKZ.out (by unfold maxLen; omega)) (Nat.le_trans HXS.out.1 (by unfold maxLen; omega)) w
          have q2 : shL (bs ah) (bs x.key) = sh := by rw [HSHE.out, if_neg (by rw [hqm]; exact hq0)]
          rw [q2] at q
          exact q
        have c6 := H1z.out.b6.cell 0
        have c5 := H1z.out.b5.cell 0
        have o0 := HATz.out.cell 0
        have o1 := HATz.out.cell 1
        have HBOC : Hid (∀ w, Calls Tryz.prog 144 #[.agg #[.string x.key, .string x.val], .int .i64 (sh : Int)] w (NewRow (oneB x sh) w)) := Lib.hid fun w => bytesOf_c x sh w HSHL.out (Nat.le_trans HXS.out.1 (by omega)) (Nat.le_trans HXS.out.2 (by omega))
        have HOL : Hid ((oneB x sh).length ≤ 300027) := Lib.hid (by
          have := HSHL.out
          have := HXS.out
          have q1 := enc_len9 (show sh < 9223372036854775808 by omega)
          have q2 := enc_len9 (show x.key.size - sh < 9223372036854775808 by omega)
          have q3 := enc_len9 (show x.val.size < 9223372036854775808 by omega)
          unfold oneB
          simp only [List.length_append, List.length_drop, bs_length]
          omega)
        gi_wp2
        refine wpIn_region_round (S := fun w' => w'.cell? ⟨w.heap.size + 1 + 1 + 1 + 1 + 1 + 1, 0, none⟩ = some (.string ah) ∧ w'.cell? ⟨O, 0, none⟩ = some (.string x.key) ∧ w'.cell? ⟨O, 1, none⟩ = some (.string x.val)) (by kernel_rfl) (by kernel_rfl) (fun h => by obtain ⟨_, _, h⟩ := h; exact h) ⟨c6, o0, o1⟩ (fun hSx => ?_)
        refine take_drop (i := 1) (v := ?v1_w55) rfl (by kernel_rfl) (by kernel_rfl) (by kernel_rfl) (fun _ _ _ h => h) (Or.inl ⟨by rfl, ?h1_w55⟩) hSx ?r1_w55
        case h1_w55 => (intro wS hSw; obtain ⟨s1, s2, s3⟩ := hSw; go_simp; all_goals (first | (with_reducible rfl) | (rw [if_neg (by omega)])))
        simp only [Act.put, List.setIfInBounds_toArray, List.set_cons_zero, List.set_cons_succ]
        refine take_drop (i := 2) (v := ?v2_w56) rfl (by kernel_rfl) (by kernel_rfl) (by kernel_rfl) (fun _ _ _ h => h) (Or.inl ⟨by rfl, ?h2_w56⟩) hSx ?r2_w56
        case h2_w56 => (intro wS hSw; obtain ⟨s1, s2, s3⟩ := hSw; go_simp; all_goals (first | (with_reducible rfl) | (rw [if_neg (by omega)])))
        simp only [Act.put, List.setIfInBounds_toArray, List.set_cons_zero, List.set_cons_succ]
        refine take_drop (i := 3) (v := ?v3_w57) rfl (by kernel_rfl) (by kernel_rfl) (by kernel_rfl) (fun _ _ _ h => h) (Or.inl ⟨by rfl, ?h3_w57⟩) hSx ?r3_w57
        case h3_w57 => (intro wS hSw; obtain ⟨s1, s2, s3⟩ := hSw; go_simp; all_goals (first | (with_reducible rfl) | (rw [if_neg (by omega)])))
        simp only [Act.put, List.setIfInBounds_toArray, List.set_cons_zero, List.set_cons_succ]
        refine take_drop (i := 4) (v := ?v4_w58) rfl (by kernel_rfl) (by kernel_rfl) (by kernel_rfl) (fun _ _ _ h => h) (Or.inl ⟨by rfl, ?h4_w58⟩) hSx ?r4_w58
        case h4_w58 => (intro wS hSw; obtain ⟨s1, s2, s3⟩ := hSw; go_simp; all_goals (first | (with_reducible rfl) | (rw [if_neg (by omega)])))
        simp only [Act.put, List.setIfInBounds_toArray, List.set_cons_zero, List.set_cons_succ]
        have HFB : Hid (Fr No W5 W5.drew) := Lib.hid ((Fr.refl No W5).drew)
        refine wpAnyH_ready (rs := [0, 5]) (by kernel_rfl) (by simp) ?_
        refine do_drop (i := 0) rfl (fun K hK => ?_) ?_
        · go_simp
          refine hK.out _ _ hSx ?_
          clear hK K
          try simp only [Act.put, List.setIfInBounds_toArray, List.set_cons_zero, List.set_cons_succ]
          refine wpAnyH_ready (rs := [5]) (by kernel_rfl) (by simp) ?_
          refine do_drop (i := 5) rfl (fun K hK => ?_) AllReadyH.nil
          go_simp
          refine (HSHX.out _).mono ?_
          rintro en Wa ⟨rfl, fa⟩
          have hSx := (show Wa.cell? ⟨w.heap.size + 1 + 1 + 1 + 1 + 1 + 1, 0, none⟩ = some (.string ah) ∧ Wa.cell? ⟨O, 0, none⟩ = some (.string x.key) ∧ Wa.cell? ⟨O, 1, none⟩ = some (.string x.val) from ⟨fa.cell hSx.1 (fun h => h), fa.cell hSx.2.1 (fun h => h), fa.cell hSx.2.2 (fun h => h)⟩)
          have c5 := fa.cell c5 (fun h => h)
          have HFA := Lib.hid (HFB.out.trans fa)
          refine hK.out _ _ hSx ?_
          clear fa
          clear hK K
          try simp only [Act.put, List.setIfInBounds_toArray, List.set_cons_zero, List.set_cons_succ]
          refine wpAnyH_ready (rs := [6]) (by kernel_rfl) (by simp) ?_
          refine do_drop (i := 6) rfl (fun K hK => ?_) AllReadyH.nil
          go_simp
          refine (HBOC.out _).mono ?_
          rintro en Wb ⟨vb, rfl, rb, fb⟩
          obtain ⟨ab, cb, rfl, _, _, inb⟩ := rb.form
          have FB := HFA.out.trans fb
          obtain ⟨vn, Wc, hrun, hbx, hfc⟩ := (HBZ.out.keep FB (fun _ h => h.elim)).more (Nat.le_trans HSZz.out FB.size) ab _ cb (oneB x sh) rfl inb.rd (by rw [HPNE.out]; have := HOL.out; have := HPL.out; omega)
          obtain ⟨ba3, bn3, bc3, rfl⟩ := hbx.out.shape
          have hSx := (show Wb.cell? ⟨w.heap.size + 1 + 1 + 1 + 1 + 1 + 1, 0, none⟩ = some (.string ah) ∧ Wb.cell? ⟨O, 0, none⟩ = some (.string x.key) ∧ Wb.cell? ⟨O, 1, none⟩ = some (.string x.val) from ⟨fb.cell hSx.1 (fun h => h), fb.cell hSx.2.1 (fun h => h), fb.cell hSx.2.2 (fun h => h)⟩)
          have c5 := fb.cell c5 (fun h => h)
          have HRUN := Lib.hid hrun
          have hnb : ∀ q, Own1 (.slice ba pn bc) q → w.heap.size + 7 ≤ q := fun q hq => by have := HBZ.out.newo q hq; have := K3.out; omega
          have H1u := Lib.hid ((H1z.out.keep FB (fun _ h => h.elim)).keep hfc hnb)
          have HATu := Lib.hid ((HATz.out.keep FB (fun h => h)).keep hfc (fun h => HBZ.out.notPair (.inl h) HATz.out))
          have HFRu := Lib.hid ((HFRz.out.then_ FB (fun _ _ h => h.elim)).then_ hfc (fun q hq h => .inr (.inr (.inr (.inl h)))))
          have HSZu : Hid (w1.heap.size ≤ Wc.heap.size) := Lib.hid (Nat.le_trans (Nat.le_trans HSZz.out FB.size) hfc.size)
          have HBXu : Hid (BX w1.heap.size Wc (.slice ba3 bn3 bc3) (.slice ra rn rc) (pairsB e (l ++ [x]) (k + 1)) (nI (startsN e (l ++ [x]) (k + 1)))) := Lib.hid (by rw [HPS.out]; exact hbx)
          obtain ⟨ol, hol⟩ : ∃ ol, (oneB x sh).length = ol := ⟨_, rfl⟩
          rw [hol] at HRUN ⊢
          refine hK.out _ _ hSx ?_
          clear fb rb inb hrun hbx hfc hnb FB hol
          clear hK K
          try simp only [Act.put, List.setIfInBounds_toArray, List.set_cons_zero, List.set_cons_succ]
          refine wpAnyH_ready (rs := [7]) (by kernel_rfl) (by simp) ?_
          refine do_drop (i := 7) rfl (fun K hK => ?_) AllReadyH.nil
          rw [if_pos (by rfl)]
          refine oper_append_run _ _ 27 rfl rfl rfl HRUN.out ?_
          have u6 := H1u.out.b6.cell 0
          have u5 := H1u.out.b5.cell 0
          have y5 := H1u.out.b5.frozen 0
          have uo0 := HATu.out.cell 0
          have uo1 := HATu.out.cell 1
          refine hK.out _ _ ⟨u6, uo0, uo1⟩ ?_
          clear c5
          clear hK K
          try simp only [Act.put, List.setIfInBounds_toArray, List.set_cons_zero, List.set_cons_succ]
          refine wpAnyH_ready (rs := [8]) (by kernel_rfl) (by simp) ?_
          refine do_drop (i := 8) rfl (fun K hK => ?_) AllReadyH.nil
          go_simp
          have fst := fr_one Wc (w.heap.size + 1 + 1 + 1 + 1 + 1) 0 (.slice ba3 bn3 bc3)
          have H1v := Lib.hid (H1u.out.setB (.slice ba3 bn3 bc3))
          have HATv := Lib.hid (HATu.out.keep fst (fun h => by have h : O = w.heap.size + 1 + 1 + 1 + 1 + 1 := h; have := HO.out; have := K3.out; omega))
          have HFRv := Lib.hid (HFRu.out.then_ fst (fun q hq h => .inr (.inl h)))
          have HSZv : Hid (w1.heap.size ≤ (Wc.setCell ⟨w.heap.size + 1 + 1 + 1 + 1 + 1, 0, none⟩ (.slice ba3 bn3 bc3)).heap.size) := Lib.hid (Nat.le_trans HSZu.out fst.size)
          have HBXv := Lib.hid (HBXu.out.keep fst (fun q h => by have h : q = w.heap.size + 1 + 1 + 1 + 1 + 1 := h; have := K3.out; omega))
          obtain ⟨Wd, hWd⟩ : ∃ Wd, Wc.setCell ⟨w.heap.size + 1 + 1 + 1 + 1 + 1, 0, none⟩ (.slice ba3 bn3 bc3) = Wd := ⟨_, rfl⟩
          rw [hWd] at H1v HATv HFRv HSZv HBXv ⊢
          have u6 := H1v.out.b6.cell 0
          have uo0 := HATv.out.cell 0
          have uo1 := HATv.out.cell 1
          refine hK.out _ _ ⟨u6, uo0, uo1⟩ ?_
          clear hK K hSx u5 y5 fst hWd H1u HATu HFRu HSZu HBXu
          refine wpAnyH_done (by kernel_rfl) ?_ _
          have y6 := H1v.out.b6.frozen 0
          have fs6 := fr_one Wd (w.heap.size + 1 + 1 + 1 + 1 + 1 + 1) 0 (.string x.key)
          have H1a := Lib.hid (H1v.out.setAh x.key)
          have HBXa := Lib.hid (HBXv.out.keep fs6 (fun q h => by have h : q = w.heap.size + 1 + 1 + 1 + 1 + 1 + 1 := h; have := K3.out; omega))
          have HFRa := Lib.hid (HFRv.out.then_ fs6 (fun q hq h => .inr (.inr (.inl h))))
          have a4 := H1a.out.b4.cell 0
          have a32 := H1a.out.b3.cell 2
          have y32 := H1a.out.b3.frozen 2
          have fs7 := fr_one (Wd.setCell ⟨w.heap.size + 1 + 1 + 1 + 1 + 1 + 1, 0, none⟩ (.string x.key)) (w.heap.size + 1 + 1 + 1) 2 (.int .i64 ((k + 1 : Nat) : Int))
          have H1b := Lib.hid (H1a.out.setC (k + 1))
          have HBXb := Lib.hid (HBXa.out.keep fs7 (fun q h => by have h : q = w.heap.size + 1 + 1 + 1 := h; have := K3.out; omega))
          have HFRb := Lib.hid (HFRa.out.then_ fs7 (fun q hq h => .inl h))
          have HSZb : Hid (w1.heap.size ≤ ((Wd.setCell ⟨w.heap.size + 1 + 1 + 1 + 1 + 1 + 1, 0, none⟩ (.string x.key)).setCell ⟨w.heap.size + 1 + 1 + 1, 2, none⟩ (.int .i64 ((k + 1 : Nat) : Int))).heap.size) := Lib.hid (Nat.le_trans (Nat.le_trans HSZv.out fs6.size) fs7.size)
          have FIN : Hid (KeepsFrom w1.heap.size W _ ∧ Kq (fun q => q < w.heap.size) W _ ∧ PkI w w1 e L (pre ++ [z]) ((Wd.setCell ⟨w.heap.size + 1 + 1 + 1 + 1 + 1 + 1, 0, none⟩ (.string x.key)).setCell ⟨w.heap.size + 1 + 1 + 1, 2, none⟩ (.int .i64 ((k + 1 : Nat) : Int)))) := Lib.hid (by
            obtain ⟨kk1, kk2⟩ := pk_keeps H1.out H2.out (show w.heap.size ≤ w1.heap.size by have := K3.out; omega) HFRb.out
            refine ⟨kk1.from _, kk2, HPX.out _ ⟨.slice ra rn rc, .slice ba3 bn3 bc3, ?_, ?_, HORD.out, ?_, HSZb.out⟩⟩
            · rw [HLEN.out, HKS.out]
              exact H1b.out
            · rw [HLEN.out]
              exact HBXb.out
            · refine H6.out.then_ HFRb.out (fun q hq h => ?_)
              rcases h with h | h | h | h | h
              · omega
              · omega
              · omega
              · have := H2.out.newo q h; have := K3.out; omega
              · have := H2.out.news q h; have := K3.out; omega)
          rw [show ((k + 1 : Nat) : Int) = (k : Int) + 1 from rfl] at FIN
          clear fs6 fs7 H1b HBXb HFRb HSZb H1a HBXa HFRa H1v HATv HFRv HSZv HBXv
          gi_wp2
          exact FIN.out
        refine do_drop (i := 5) rfl (fun K hK => ?_) AllReadyH.nil
        go_simp
        refine (HSHX.out _).mono ?_
        rintro en Wa ⟨rfl, fa⟩
        have hSx := (show Wa.cell? ⟨w.heap.size + 1 + 1 + 1 + 1 + 1 + 1, 0, none⟩ = some (.string ah) ∧ Wa.cell? ⟨O, 0, none⟩ = some (.string x.key) ∧ Wa.cell? ⟨O, 1, none⟩ = some (.string x.val) from ⟨fa.cell hSx.1 (fun h => h), fa.cell hSx.2.1 (fun h => h), fa.cell hSx.2.2 (fun h => h)⟩)
        have c5 := fa.cell c5 (fun h => h)
        have HFA := Lib.hid (HFB.out.trans fa)
        refine hK.out _ _ hSx ?_
        clear fa
        clear hK K
        try simp only [Act.put, List.setIfInBounds_toArray, List.set_cons_zero, List.set_cons_succ]
        refine wpAnyH_ready (rs := [0, 6]) (by kernel_rfl) (by simp) ?_
        refine do_drop (i := 0) rfl (fun K hK => ?_) ?_
        · go_simp
          refine hK.out _ _ hSx ?_
          clear hK K
          try simp only [Act.put, List.setIfInBounds_toArray, List.set_cons_zero, List.set_cons_succ]
          refine wpAnyH_ready (rs := [6]) (by kernel_rfl) (by simp) ?_
          refine do_drop (i := 6) rfl (fun K hK => ?_) AllReadyH.nil
          go_simp
          refine (HBOC.out _).mono ?_
          rintro en Wb ⟨vb, rfl, rb, fb⟩
          obtain ⟨ab, cb, rfl, _, _, inb⟩ := rb.form
          have FB := HFA.out.trans fb
          obtain ⟨vn, Wc, hrun, hbx, hfc⟩ := (HBZ.out.keep FB (fun _ h => h.elim)).more (Nat.le_trans HSZz.out FB.size) ab _ cb (oneB x sh) rfl inb.rd (by rw [HPNE.out]; have := HOL.out; have := HPL.out; omega)
          obtain ⟨ba3, bn3, bc3, rfl⟩ := hbx.out.shape
          have hSx := (show Wb.cell? ⟨w.heap.size + 1 + 1 + 1 + 1 + 1 + 1, 0, none⟩ = some (.string ah) ∧ Wb.cell? ⟨O, 0, none⟩ = some (.string x.key) ∧ Wb.cell? ⟨O, 1, none⟩ = some (.string x.val) from ⟨fb.cell hSx.1 (fun h => h), fb.cell hSx.2.1 (fun h => h), fb.cell hSx.2.2 (fun h => h)⟩)
          have c5 := fb.cell c5 (fun h => h)
          have HRUN := Lib.hid hrun
          have hnb : ∀ q, Own1 (.slice ba pn bc) q → w.heap.size + 7 ≤ q := fun q hq => by have := HBZ.out.newo q hq; have := K3.out; omega
          have H1u := Lib.hid ((H1z.out.keep FB (fun _ h => h.elim)).keep hfc hnb)
          have HATu := Lib.hid ((HATz.out.keep FB (fun h => h)).keep hfc (fun h => HBZ.out.notPair (.inl h) HATz.out))
          have HFRu := Lib.hid ((HFRz.out.then_ FB (fun _ _ h => h.elim)).then_ hfc (fun q hq h => .inr (.inr (.inr (.inl h)))))
          have HSZu : Hid (w1.heap.size ≤ Wc.heap.size) := Lib.hid (Nat.le_trans (Nat.le_trans HSZz.out FB.size) hfc.size)
          have HBXu : Hid (BX w1.heap.size Wc (.slice ba3 bn3 bc3) (.slice ra rn rc) (pairsB e (l ++ [x]) (k + 1)) (nI (startsN e (l ++ [x]) (k + 1)))) := Lib.hid (by rw [HPS.out]; exact hbx)
          obtain ⟨ol, hol⟩ : ∃ ol, (oneB x sh).length = ol := ⟨_, rfl⟩
          rw [hol] at HRUN ⊢
          refine hK.out _ _ hSx ?_
          clear fb rb inb hrun hbx hfc hnb FB hol
          clear hK K
          try simp only [Act.put, List.setIfInBounds_toArray, List.set_cons_zero, List.set_cons_succ]
          refine wpAnyH_ready (rs := [7]) (by kernel_rfl) (by simp) ?_
          refine do_drop (i := 7) rfl (fun K hK => ?_) AllReadyH.nil
          rw [if_pos (by rfl)]
          refine oper_append_run _ _ 27 rfl rfl rfl HRUN.out ?_
          have u6 := H1u.out.b6.cell 0
          have u5 := H1u.out.b5.cell 0
          have y5 := H1u.out.b5.frozen 0
          have uo0 := HATu.out.cell 0
          have uo1 := HATu.out.cell 1
          refine hK.out _ _ ⟨u6, uo0, uo1⟩ ?_
          clear c5
          clear hK K
          try simp only [Act.put, List.setIfInBounds_toArray, List.set_cons_zero, List.set_cons_succ]
          refine wpAnyH_ready (rs := [8]) (by kernel_rfl) (by simp) ?_
          refine do_drop (i := 8) rfl (fun K hK => ?_) AllReadyH.nil
          go_simp
          have fst := fr_one Wc (w.heap.size + 1 + 1 + 1 + 1 + 1) 0 (.slice ba3 bn3 bc3)
          have H1v := Lib.hid (H1u.out.setB (.slice ba3 bn3 bc3))
          have HATv := Lib.hid (HATu.out.keep fst (fun h => by have h : O = w.heap.size + 1 + 1 + 1 + 1 + 1 := h; have := HO.out; have := K3.out; omega))
          have HFRv := Lib.hid (HFRu.out.then_ fst (fun q hq h => .inr (.inl h)))
          have HSZv : Hid (w1.heap.size ≤ (Wc.setCell ⟨w.heap.size + 1 + 1 + 1 + 1 + 1, 0, none⟩ (.slice ba3 bn3 bc3)).heap.size) := Lib.hid (Nat.le_trans HSZu.out fst.size)
          have HBXv := Lib.hid (HBXu.out.keep fst (fun q h => by have h : q = w.heap.size + 1 + 1 + 1 + 1 + 1 := h; have := K3.out; omega))
          obtain ⟨Wd, hWd⟩ : ∃ Wd, Wc.setCell ⟨w.heap.size + 1 + 1 + 1 + 1 + 1, 0, none⟩ (.slice ba3 bn3 bc3) = Wd := ⟨_, rfl⟩
          rw [hWd] at H1v HATv HFRv HSZv HBXv ⊢
          have u6 := H1v.out.b6.cell 0
          have uo0 := HATv.out.cell 0
          have uo1 := HATv.out.cell 1
          refine hK.out _ _ ⟨u6, uo0, uo1⟩ ?_
          clear hK K hSx u5 y5 fst hWd H1u HATu HFRu HSZu HBXu
          refine wpAnyH_done (by kernel_rfl) ?_ _
          have y6 := H1v.out.b6.frozen 0
          have fs6 := fr_one Wd (w.heap.size + 1 + 1 + 1 + 1 + 1 + 1) 0 (.string x.key)
          have H1a := Lib.hid (H1v.out.setAh x.key)
          have HBXa := Lib.hid (HBXv.out.keep fs6 (fun q h => by have h : q = w.heap.size + 1 + 1 + 1 + 1 + 1 + 1 := h; have := K3.out; omega))
          have HFRa := Lib.hid (HFRv.out.then_ fs6 (fun q hq h => .inr (.inr (.inl h))))
          have a4 := H1a.out.b4.cell 0
          have a32 := H1a.out.b3.cell 2
          have y32 := H1a.out.b3.frozen 2
          have fs7 := fr_one (Wd.setCell ⟨w.heap.size + 1 + 1 + 1 + 1 + 1 + 1, 0, none⟩ (.string x.key)) (w.heap.size + 1 + 1 + 1) 2 (.int .i64 ((k + 1 : Nat) : Int))
          have H1b := Lib.hid (H1a.out.setC (k + 1))
          have HBXb := Lib.hid (HBXa.out.keep fs7 (fun q h => by have h : q = w.heap.size + 1 + 1 + 1 := h; have := K3.out; omega))
          have HFRb := Lib.hid (HFRa.out.then_ fs7 (fun q hq h => .inl h))
          have HSZb : Hid (w1.heap.size ≤ ((Wd.setCell ⟨w.heap.size + 1 + 1 + 1 + 1 + 1 + 1, 0, none⟩ (.string x.key)).setCell ⟨w.heap.size + 1 + 1 + 1, 2, none⟩ (.int .i64 ((k + 1 : Nat) : Int))).heap.size) := Lib.hid (Nat.le_trans (Nat.le_trans HSZv.out fs6.size) fs7.size)
          have FIN : Hid (KeepsFrom w1.heap.size W _ ∧ Kq (fun q => q < w.heap.size) W _ ∧ PkI w w1 e L (pre ++ [z]) ((Wd.setCell ⟨w.heap.size + 1 + 1 + 1 + 1 + 1 + 1, 0, none⟩ (.string x.key)).setCell ⟨w.heap.size + 1 + 1 + 1, 2, none⟩ (.int .i64 ((k + 1 : Nat) : Int)))) := Lib.hid (by
            obtain ⟨kk1, kk2⟩ := pk_keeps H1.out H2.out (show w.heap.size ≤ w1.heap.size by have := K3.out; omega) HFRb.out
            refine ⟨kk1.from _, kk2, HPX.out _ ⟨.slice ra rn rc, .slice ba3 bn3 bc3, ?_, ?_, HORD.out, ?_, HSZb.out⟩⟩
            · rw [HLEN.out, HKS.out]
              exact H1b.out
            · rw [HLEN.out]
              exact HBXb.out
            · refine H6.out.then_ HFRb.out (fun q hq h => ?_)
              rcases h with h | h | h | h | h
              · omega
              · omega
              · omega
              · have := H2.out.newo q h; have := K3.out; omega
              · have := H2.out.news q h; have := K3.out; omega)
          rw [show ((k + 1 : Nat) : Int) = (k : Int) + 1 from rfl] at FIN
          clear fs6 fs7 H1b HBXb HFRb HSZb H1a HBXa HFRa H1v HATv HFRv HSZv HBXv
          gi_wp2
          exact FIN.out
        refine do_drop (i := 6) rfl (fun K hK => ?_) AllReadyH.nil
        go_simp
        refine (HBOC.out _).mono ?_
        rintro en Wb ⟨vb, rfl, rb, fb⟩
        obtain ⟨ab, cb, rfl, _, _, inb⟩ := rb.form
        have FB := HFA.out.trans fb
        obtain ⟨vn, Wc, hrun, hbx, hfc⟩ := (HBZ.out.keep FB (fun _ h => h.elim)).more (Nat.le_trans HSZz.out FB.size) ab _ cb (oneB x sh) rfl inb.rd (by rw [HPNE.out]; have := HOL.out; have := HPL.out; omega)
        obtain ⟨ba3, bn3, bc3, rfl⟩ := hbx.out.shape
        have hSx := (show Wb.cell? ⟨w.heap.size + 1 + 1 + 1 + 1 + 1 + 1, 0, none⟩ = some (.string ah) ∧ Wb.cell? ⟨O, 0, none⟩ = some (.string x.key) ∧ Wb.cell? ⟨O, 1, none⟩ = some (.string x.val) from ⟨fb.cell hSx.1 (fun h => h), fb.cell hSx.2.1 (fun h => h), fb.cell hSx.2.2 (fun h => h)⟩)
        have c5 := fb.cell c5 (fun h => h)
        have HRUN := Lib.hid hrun
        have hnb : ∀ q, Own1 (.slice ba pn bc) q → w.heap.size + 7 ≤ q := fun q hq => by have := HBZ.out.newo q hq; have := K3.out; omega
        have H1u := Lib.hid ((H1z.out.keep FB (fun _ h => h.elim)).keep hfc hnb)
        have HATu := Lib.hid ((HATz.out.keep FB (fun h => h)).keep hfc (fun h => HBZ.out.notPair (.inl h) HATz.out))
        have HFRu := Lib.hid ((HFRz.out.then_ FB (fun _ _ h => h.elim)).then_ hfc (fun q hq h => .inr (.inr (.inr (.inl h)))))
        have HSZu : Hid (w1.heap.size ≤ Wc.heap.size) := Lib.hid (Nat.le_trans (Nat.le_trans HSZz.out FB.size) hfc.size)
        have HBXu : Hid (BX w1.heap.size Wc (.slice ba3 bn3 bc3) (.slice ra rn rc) (pairsB e (l ++ [x]) (k + 1)) (nI (startsN e (l ++ [x]) (k + 1)))) := Lib.hid (by rw [HPS.out]; exact hbx)
        obtain ⟨ol, hol⟩ : ∃ ol, (oneB x sh).length = ol := ⟨_, rfl⟩
        rw [hol] at HRUN ⊢
        refine hK.out _ _ hSx ?_
        clear fb rb inb hrun hbx hfc hnb FB hol
        clear hK K
        try simp only [Act.put, List.setIfInBounds_toArray, List.set_cons_zero, List.set_cons_succ]
        refine wpAnyH_ready (rs := [0]) (by kernel_rfl) (by simp) ?_
        refine do_drop (i := 0) rfl (fun K hK => ?_) AllReadyH.nil
        go_simp
        refine hK.out _ _ hSx ?_
        clear hK K
        try simp only [Act.put, List.setIfInBounds_toArray, List.set_cons_zero, List.set_cons_succ]
        refine wpAnyH_ready (rs := [7]) (by kernel_rfl) (by simp) ?_
        refine do_drop (i := 7) rfl (fun K hK => ?_) AllReadyH.nil
        rw [if_pos (by rfl)]
        refine oper_append_run _ _ 27 rfl rfl rfl HRUN.out ?_
        have u6 := H1u.out.b6.cell 0
        have u5 := H1u.out.b5.cell 0
        have y5 := H1u.out.b5.frozen 0
        have uo0 := HATu.out.cell 0
        have uo1 := HATu.out.cell 1
        refine hK.out _ _ ⟨u6, uo0, uo1⟩ ?_
        clear c5
        clear hK K
        try simp only [Act.put, List.setIfInBounds_toArray, List.set_cons_zero, List.set_cons_succ]
        refine wpAnyH_ready (rs := [8]) (by kernel_rfl) (by simp) ?_
        refine do_drop (i := 8) rfl (fun K hK => ?_) AllReadyH.nil
        go_simp
        have fst := fr_one Wc (w.heap.size + 1 + 1 + 1 + 1 + 1) 0 (.slice ba3 bn3 bc3)
        have H1v := Lib.hid (H1u.out.setB (.slice ba3 bn3 bc3))
        have HATv := Lib.hid (HATu.out.keep fst (fun h => by have h : O = w.heap.size + 1 + 1 + 1 + 1 + 1 := h; have := HO.out; have := K3.out; omega))
        have HFRv := Lib.hid (HFRu.out.then_ fst (fun q hq h => .inr (.inl h)))
        have HSZv : Hid (w1.heap.size ≤ (Wc.setCell ⟨w.heap.size + 1 + 1 + 1 + 1 + 1, 0, none⟩ (.slice ba3 bn3 bc3)).heap.size) := Lib.hid (Nat.le_trans HSZu.out fst.size)
        have HBXv := Lib.hid (HBXu.out.keep fst (fun q h => by have h : q = w.heap.size + 1 + 1 + 1 + 1 + 1 := h; have := K3.out; omega))
        obtain ⟨Wd, hWd⟩ : ∃ Wd, Wc.setCell ⟨w.heap.size + 1 + 1 + 1 + 1 + 1, 0, none⟩ (.slice ba3 bn3 bc3) = Wd := ⟨_, rfl⟩
        rw [hWd] at H1v HATv HFRv HSZv HBXv ⊢
        have u6 := H1v.out.b6.cell 0
        have uo0 := HATv.out.cell 0
        have uo1 := HATv.out.cell 1
        refine hK.out _ _ ⟨u6, uo0, uo1⟩ ?_
        clear hK K hSx u5 y5 fst hWd H1u HATu HFRu HSZu HBXu
        refine wpAnyH_done (by kernel_rfl) ?_ _
        have y6 := H1v.out.b6.frozen 0
        have fs6 := fr_one Wd (w.heap.size + 1 + 1 + 1 + 1 + 1 + 1) 0 (.string x.key)
        have H1a := Lib.hid (H1v.out.setAh x.key)
        have HBXa := Lib.hid (HBXv.out.keep fs6 (fun q h => by have h : q = w.heap.size + 1 + 1 + 1 + 1 + 1 + 1 := h; have := K3.out; omega))
        have HFRa := Lib.hid (HFRv.out.then_ fs6 (fun q hq h => .inr (.inr (.inl h))))
        have a4 := H1a.out.b4.cell 0
        have a32 := H1a.out.b3.cell 2
        have y32 := H1a.out.b3.frozen 2
        have fs7 := fr_one (Wd.setCell ⟨w.heap.size + 1 + 1 + 1 + 1 + 1 + 1, 0, none⟩ (.string x.key)) (w.heap.size + 1 + 1 + 1) 2 (.int .i64 ((k + 1 : Nat) : Int))
        have H1b := Lib.hid (H1a.out.setC (k + 1))
        have HBXb := Lib.hid (HBXa.out.keep fs7 (fun q h => by have h : q = w.heap.size + 1 + 1 + 1 := h; have := K3.out; omega))
        have HFRb := Lib.hid (HFRa.out.then_ fs7 (fun q hq h => .inl h))
        have HSZb : Hid (w1.heap.size ≤ ((Wd.setCell ⟨w.heap.size + 1 + 1 + 1 + 1 + 1 + 1, 0, none⟩ (.string x.key)).setCell ⟨w.heap.size + 1 + 1 + 1, 2, none⟩ (.int .i64 ((k + 1 : Nat) : Int))).heap.size) := Lib.hid (Nat.le_trans (Nat.le_trans HSZv.out fs6.size) fs7.size)
        have FIN : Hid (KeepsFrom w1.heap.size W _ ∧ Kq (fun q => q < w.heap.size) W _ ∧ PkI w w1 e L (pre ++ [z]) ((Wd.setCell ⟨w.heap.size + 1 + 1 + 1 + 1 + 1 + 1, 0, none⟩ (.string x.key)).setCell ⟨w.heap.size + 1 + 1 + 1, 2, none⟩ (.int .i64 ((k + 1 : Nat) : Int)))) := Lib.hid (by
          obtain ⟨kk1, kk2⟩ := pk_keeps H1.out H2.out (show w.heap.size ≤ w1.heap.size by have := K3.out; omega) HFRb.out
          refine ⟨kk1.from _, kk2, HPX.out _ ⟨.slice ra rn rc, .slice ba3 bn3 bc3, ?_, ?_, HORD.out, ?_, HSZb.out⟩⟩
          · rw [HLEN.out, HKS.out]
            exact H1b.out
          · rw [HLEN.out]
            exact HBXb.out
          · refine H6.out.then_ HFRb.out (fun q hq h => ?_)
            rcases h with h | h | h | h | h
            · omega
            · omega
            · omega
            · have := H2.out.newo q h; have := K3.out; omega
            · have := H2.out.news q h; have := K3.out; omega)
        rw [show ((k + 1 : Nat) : Int) = (k : Int) + 1 from rfl] at FIN
        clear fs6 fs7 H1b HBXb HFRb HSZb H1a HBXa HFRa H1v HATv HFRv HSZv HBXv
        gi_wp2
        exact FIN.out
  case done =>
    rintro D ys W hD rfl ⟨rv, bv, h1, h2, h3, h6, h7⟩ hK
    rw [pl_all] at h1 h2 h3
    obtain ⟨ba, bc, rfl, _, _, inb⟩ := h2.out.form
    obtain ⟨ra, rc, rfl, _, _, _⟩ := h2.starts.form
    have hcv := conv_rd W ba _ bc (pairsB e L L.length) rfl inb.rd
    obtain ⟨P, hP⟩ : ∃ P, strOf (pairsB e L L.length) = P := ⟨_, rfl⟩
    have HP : Hid (bs P = pairsB e L L.length) := Lib.hid (by rw [← hP]; unfold bs strOf; simp)
    rw [hP] at hcv
    have HORD := Lib.hid h3
    have H2 := Lib.hid h2
    obtain ⟨pn, hpn⟩ : ∃ pn, (pairsB e L L.length).length = pn := ⟨_, rfl⟩
    obtain ⟨rn, hrn⟩ : ∃ rn, (nI (startsN e L L.length)).length = rn := ⟨_, rfl⟩
    rw [hpn, hrn] at h1 H2
    rw [hpn] at hcv
    have hrn2 : rn = (startsN e L L.length).length := by rw [← hrn, nI_len]
    have HRN := Lib.hid hrn2
    have c4 := h1.b4.cell 0
    have c5 := h1.b5.cell 0
    have c30 := h1.b3.cell 0
    have z30 := h1.b3.frozen 0
    have q1 := fr_one W (w.heap.size + 1 + 1 + 1) 0 (.string P)
    have n1 : ∀ q, q ≠ w.heap.size + 1 + 1 + 1 → ¬ One (w.heap.size + 1 + 1 + 1) q := fun q hq h => hq h
    have a3 := h1.b3.set_ 0 (.string P)
    have a1 := h1.b1.keep q1 (n1 _ (by omega))
    have a2 := h1.b2.keep q1 (n1 _ (by omega))
    have d4 := (h1.b4.keep q1 (n1 _ (by omega))).cell 0
    have hbx := h2.keep q1 (fun q h => by have h : q = w.heap.size + 1 + 1 + 1 := h; omega)
    have hfr := h6.then_ q1 (fun q hq h => by have h : q = w.heap.size + 1 + 1 + 1 := h; omega)
    have ko := KeepsOthers.setCell W ⟨w.heap.size + 1 + 1 + 1, 0, none⟩ (.string P)
    obtain ⟨Wa, hWa⟩ : ∃ Wa, W.setCell ⟨w.heap.size + 1 + 1 + 1, 0, none⟩ (.string P) = Wa := ⟨_, rfl⟩
    rw [hWa] at a3 a1 a2 d4 hbx hfr ko
    have e1 := a1.cell 0
    have z1 := a1.frozen 0
    have q2 := fr_one Wa (w.heap.size + 1) 0 (.pointer (some ⟨w.heap.size + 1 + 1 + 1, 0, none⟩))
    have n2 : ∀ q, q ≠ w.heap.size + 1 → ¬ One (w.heap.size + 1) q := fun q hq h => hq h
    have g3 := a3.keep q2 (n2 _ (by omega))
    have g1 := a1.set_ 0 (.pointer (some ⟨w.heap.size + 1 + 1 + 1, 0, none⟩))
    have g2 := a2.keep q2 (n2 _ (by omega))
    have hbx2 := hbx.keep q2 (fun q h => by have h : q = w.heap.size + 1 := h; omega)
    have hfr2 := hfr.then_ q2 (fun q hq h => by have h : q = w.heap.size + 1 := h; omega)
    have ko2 := ko.trans (KeepsOthers.setCell Wa ⟨w.heap.size + 1, 0, none⟩ (.pointer (some ⟨w.heap.size + 1 + 1 + 1, 0, none⟩)))
    obtain ⟨Wb, hWb⟩ : ∃ Wb, Wa.setCell ⟨w.heap.size + 1, 0, none⟩ (.pointer (some ⟨w.heap.size + 1 + 1 + 1, 0, none⟩)) = Wb := ⟨_, rfl⟩
    rw [hWb] at g3 g1 g2 hbx2 hfr2 ko2
    have e2 := g2.cell 0
    have z2 := g2.frozen 0
    have q3 := fr_one Wb (w.heap.size + 1 + 1) 0 (.int .i64 0)
    have n3 : ∀ q, q ≠ w.heap.size + 1 + 1 → ¬ One (w.heap.size + 1 + 1) q := fun q hq h => hq h
    have K3' := Lib.hid (g3.keep q3 (n3 _ (by omega)))
    have K1' := Lib.hid (g1.keep q3 (n3 _ (by omega)))
    have K2' := Lib.hid (g2.set_ 0 (.int .i64 0))
    have HBX := Lib.hid (hbx2.keep q3 (fun q h => by have h : q = w.heap.size + 1 + 1 := h; omega))
    have HFR := Lib.hid (hfr2.then_ q3 (fun q hq h => by have h : q = w.heap.size + 1 + 1 := h; omega))
    have HKD := Lib.hid ((ko2.trans (KeepsOthers.setCell Wb ⟨w.heap.size + 1 + 1, 0, none⟩ (.int .i64 0))).same _ _ hK rfl)
    rw [hpn, hrn] at HBX
    have HWa := Lib.hid hWa
    have HWb := Lib.hid hWb
    have hf1s := hf1.size
    have HHL := Lib.hid (show Fit L e from ⟨he, he2, h3, hlow, hlen⟩)
    rw [← hWa] at d4 e1 z1
    rw [← hWb, ← hWa] at e2 z2
    clear h1 h2 h3 h6 h7 inb hP hpn hrn hrn2 q1 n1 a3 a1 a2 hbx hfr ko hWa q2 n2 g3 g1 g2 hbx2 hfr2 ko2 hWb q3 n3 hK
    go_wp2_with fail
    rw [HWa.out, HWb.out]
    refine ⟨by simp, .inl ⟨_, _, rfl, run_takeDeferred HKD.out, ?_⟩⟩
    have hg := grownBy_putObj' (Wb.setCell ⟨w.heap.size + 1 + 1, 0, none⟩ (.int .i64 0)) D (.deferred none)
    have hr : Turns w1.heap.size (Wb.setCell ⟨w.heap.size + 1 + 1, 0, none⟩ (.int .i64 0)) (some D) := fun r e => by cases e; exact ⟨hD, _, HKD.out, rfl⟩
    have m3 := own_at K3'.out hg hr
    have m1 := (own_at K1'.out hg hr).cell 0
    have m2 := (own_at K2'.out hg hr).cell 0
    have mb := HBX.out.own hg hr
    have mf := own_fr hf1s HFR.out hg hr
    obtain ⟨a9, c9, e9, l9, x9, i9⟩ := mb.starts.inI
    rw [HRN.out] at m3
    rw [HRN.out] at e9
    injection e9 with e9a e9b e9c
    subst e9a e9c
    refine ⟨_, pack_results _ _ _ _ _ _ rfl rfl m1 m2, .inl ⟨HORD.out, w.heap.size + 1 + 1 + 1, fun q => q = w.heap.size + 1 + 1 + 1 ∨ Own1 (.slice ra rn rc) q, rfl, ⟨.inl rfl, ?_, P, ra, rc, m3, HP.out, ⟨l9, x9⟩, ?_, HHL.out⟩, ?_, mf⟩⟩
    · intro q hq
      rcases hq with rfl | hq
      · exact m3.lt
      · exact mb.ltS q hq
    · intro hl
      obtain ⟨b, o, hb, ha, hc⟩ := i9 hl
      exact ⟨b, o, .inr hb, ha, hc⟩
    · intro q hq
      rcases hq with rfl | hq
      · omega
      · have := mb.news q hq; omega
  case stop =>
    rintro D c pre W hD hpre ⟨rfl, h1, h2, h3, h4⟩ hK
    have hf1s := hf1.size
    have HN : Hid (¬ ordP L) := Lib.hid (fun h => h1 (ord_take h (pl_pre hpre)))
    clear h1 hpre
    gi_wp2
    refine ⟨by simp, .inl ⟨_, _, rfl, run_takeDeferred hK, ?_⟩⟩
    have hg := grownBy_putObj' W D (.deferred none)
    have hr : Turns w1.heap.size W (some D) := fun r e => by cases e; exact ⟨hD, _, hK, rfl⟩
    exact ⟨_, pack_results _ _ _ _ _ _ rfl rfl ((own_at h2 hg hr).cell 0) ((own_at h3 hg hr).cell 0), .inr ⟨HN.out, rfl, own_fr hf1s h4 hg hr⟩⟩
end Go.Proofs.YtlobnbbndkhcbaaGreatDoor
