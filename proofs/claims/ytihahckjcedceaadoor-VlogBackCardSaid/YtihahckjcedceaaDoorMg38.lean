/-
  Texts of layer 14 and of what it stands on, one behind the other.
-/
import Derived.Test.YtihahckjcedceaaDoorMg37

/- Layer 9: ReadAt. -/
namespace Go.Proofs.YtihahckjcedceaaDoor
set_option linter.unusedVariables false
open Go.RowKit

/-- What ReadAt tells of the place t of a zone, where s bytes are read. -/
noncomputable def raR (m : Dev) (z t s : Int) : List UInt8 × Int :=
  if rdErr m z t s = 0 then (if (scanL (rdB m z t s)).length = 1 ∧ (framesL (scanL (rdB m z t s))).length = (rdB m z t s).length then ((scanL (rdB m z t s)).getD 0 [], 0) else ([], 22)) else ([], rdErr m z t s)
def RaPost (r : List UInt8 × Int) (w : World) (e : Ending) (w' : World) : Prop := ∃ a c, e = .returned (.tuple #[.slice a r.1.length c, .int .i64 r.2]) ∧ In w' (From w.heap.size) a r.1 ∧ Fr No w w'
theorem rdB_le {m : Dev} (hw : WF m) (z t n : Int) : (rdB m z t n).length ≤ 65536 := by
  have h1 := (zoneM_ok hw z).l
  have h2 := hw.s64
  unfold rdB
  split
  · rw [List.length_take, List.length_drop]
    omega
  · simp
theorem size_big (n : Int) (h : 1000000 < n) (wn : (Lit.int .i64 n).wf = true) (w : World) : ∃ r : Int, (Lit.int .i64 r).wf = true ∧ (r < 0 ∨ 1000000 < r) ∧ ∀ w, Calls Tryd.prog 23 #[.int .i64 n] w fun e w' => e = .returned (.int .i64 r) ∧ w = w' := by
  obtain ⟨k, rfl⟩ : ∃ k : Nat, n = (k : Int) := ⟨n.toNat, by omega⟩
  have hn := wf_out wn
  have h9 := enc_len9 (show k < 9223372036854775808 by omega)
  have HC := Lib.hid (fun w => size_c k w (by omega))
  generalize (enc k).length = E at *
  have hw1 : IntKind.i64.wrap (4 + (E : Int)) = 4 + (E : Int) := by
    simp [IntKind.wrap, IntKind.signed, IntKind.bits]
    omega
  refine ⟨IntKind.i64.wrap (4 + (E : Int) + (k : Int)), ?_, ?_, fun w => ?_⟩
  · refine wf_small ?_ ?_ <;> simp [IntKind.wrap, IntKind.signed, IntKind.bits] <;> omega
  · simp [IntKind.wrap, IntKind.signed, IntKind.bits]
    omega
  · obtain ⟨R, hR⟩ : ∃ R, IntKind.i64.wrap (4 + (E : Int) + (k : Int)) = R := ⟨_, rfl⟩
    rw [hR]
    go_enter Tryd.func23, Tryd.ntmps23
    go_wp2_with fail
    refine (show Calls _ _ _ _ _ from HC.out w).mono ?_
    rintro e w' ⟨rfl, rfl⟩
    go_wp2_with fail
    go_ret
    exact ⟨rfl, rfl⟩
section
variable {L : Nat → Prop} {w : World} {g d : Nat} {F : Nat → Prop} {m : Dev} {v : Value} {zs : List Int}
set_option maxRecDepth 20000 in
set_option maxHeartbeats 3200000 in
theorem lreadat_c (h : Ld L w g d F m v zs) (hw : WF m) (ht : Tab w) (z t n s : Int) (wt : (Lit.int .i64 t).wf = true) (ws : (Lit.int .i64 s).wf = true)
    (CS : ∀ w, Calls Tryd.prog 23 #[.int .i64 n] w fun e w' => e = .returned (.int .i64 s) ∧ w = w') :
    Calls Tryd.prog 30 #[.pointer (some ⟨g, 0, none⟩), .int .i64 z, .int .i64 t, .int .i64 n] w (RaPost (raR m z t s) w) := by
  obtain ⟨c0, c1⟩ := h.cells
  have CS := Lib.hid CS
  have CR := Lib.hid (fun (w' : World) (f : Fr No w w') => dread_c (h.dz.keep f (fun _ _ h => h)) hw z t s wt ws)
  have hbl := rdB_le hw z t s
  have CSC := Lib.hid (fun (a : Option Addr) (n c : Nat) (b : List UInt8) (w' : World) (f : Fr No w w') (h : b.length = n) (hn : n ≤ 100000) (hc : n ≤ c) (hr : Rd w' a b) => scan_c a n c b w' h hn hc hr (ht.keep f (fun h => h)))
  have HRA : Hid (raR m z t s = if rdErr m z t s = 0 then (if (scanL (rdB m z t s)).length = 1 ∧ (framesL (scanL (rdB m z t s))).length = (rdB m z t s).length then ((scanL (rdB m z t s)).getD 0 [], 0) else ([], 22)) else ([], rdErr m z t s)) := Lib.hid rfl
  have hb0 : rdErr m z t s ≠ 0 → rdB m z t s = [] := fun h => by unfold rdB; rw [if_neg h]
  unfold ReadD at CR
  clear h hw ht wt ws
  generalize raR m z t s = R at *
  generalize rdB m z t s = bs at *
  generalize rdErr m z t s = er at *
  obtain ⟨len, hlen⟩ : ∃ n, bs.length = n := ⟨_, rfl⟩
  have HLEN := Lib.hid hlen
  rw [hlen] at hbl HRA CR
  clear hlen
  by_cases he : er = 0
  · subst he
    rw [if_pos rfl] at HRA
    clear hb0
    go_enter Tryd.func30, Tryd.ntmps30
    go_wp2_with fail
    go_region_held3 (fun w' => w'.cell? ⟨g, 0, none⟩ = some (.pointer (some ⟨d, 0, none⟩))) (first | assumption | go_keep)
      (first
        | (go_at_call 23; refine (CS.out w.drew).mono ?_; rintro e w5 ⟨rfl, rfl⟩)
        | (go_at_call 53; refine (CR.out w.drew (Fr.refl No w).drew).mono ?_; rintro e w6 ⟨ra, rc, rfl, r1, r2, rin, rf⟩
           have c0 := rf.cell (p := ⟨g, 0, none⟩) (v := .pointer (some ⟨d, 0, none⟩)) c0 (fun h => h)
           have RIN := Lib.hid rin
           have RF := Lib.hid ((Fr.refl No w).drew.trans rf)
           have RL := Lib.hid (And.intro r1 r2)
           clear rin rf r1 r2 CS CR))
    have C2 := Lib.hid (CSC.out ra len rc bs _ RF.out HLEN.out (by omega) RL.out.1 RIN.out.rd)
    go_wp2_with fail
    refine (show Calls _ _ _ _ _ from C2.out).mono ?_
    rintro e w7 ⟨v7, xs, rfl, htx, hxs, hf7⟩
    obtain ⟨xa, xc, rfl, x1, x2, hrec⟩ := htx.texts
    have HF7 := Lib.hid (RF.out.trans hf7)
    have hlx : xs.length = (scanL bs).length := by rw [← hxs, List.length_map]
    rw [← hxs] at HRA ⊢
    rw [List.length_map] at HRA
    have HAT := Lib.hid htx.at_
    have hsz6 := RF.out.size
    obtain ⟨en, hen⟩ : ∃ n, (framesL (xs.map Tx.b)).length = n := ⟨_, rfl⟩
    rw [hen] at HRA ⊢
    have HREC := Lib.hid hrec
    clear htx hxs hf7 hrec C2 hlx hen RIN RF RL
    by_cases h1 : xs.length = 1
    · obtain ⟨x, rfl⟩ : ∃ x, xs = [x] := List.length_eq_one_iff.1 h1
      by_cases h2 : en = len
      · subst h2
        have HR : Hid (R = (x.b, 0)) := Lib.hid (by rw [HRA.out, if_pos ⟨rfl, rfl⟩]; rfl)
        obtain ⟨rb, ro, rfl, hat⟩ := HREC.out (Nat.zero_lt_succ _)
        have c2 := (hat 0 x rfl).c0
        simp only [Nat.add_zero] at c2
        have HIN := Lib.hid (HAT.out x (List.mem_singleton.2 rfl))
        have e2 : ((en : Int) != (en : Int)) = false := by simp
        obtain ⟨za, zc, zb⟩ := x
        simp only at c2 HIN HR
        have HOUT : Hid (RaPost R w (.returned (.tuple #[.slice za zb.length zc, .int .i64 0])) w7) := Lib.hid (by
          rw [HR.out]
          exact ⟨za, zc, rfl, HIN.out.sub fun k _ hk => Nat.le_trans hsz6 hk.1, HF7.out⟩)
        clear hat h1 HR HIN HAT HREC HRA
        generalize zb.length = zn at *
        simp only [List.length_cons, List.length_nil, Nat.zero_add] at x1 ⊢
        go_wp2_with fail
        go_ret2
        exact HOUT.out
      · have HR : Hid (R = ([], 22)) := Lib.hid (by rw [HRA.out, if_neg (fun h => h2 h.2)])
        have e2 : ((en : Int) != (len : Int)) = true := by rw [bne_iff_ne]; omega
        clear h1 h2 HREC HAT HRA
        simp only [List.length_cons, List.length_nil, Nat.zero_add] at x1 ⊢
        go_wp2_with fail
        go_ret2
        exact ⟨none, 0, by rw [HR.out]; rfl, by rw [HR.out]; exact In.nil _ _ _, HF7.out⟩
    · have HR : Hid (R = ([], 22)) := Lib.hid (by rw [HRA.out, if_neg (fun h => h1 h.1)])
      have e1 : ((xs.length : Int) != 1) = true := by rw [bne_iff_ne]; omega
      clear h1 HREC HAT HRA
      generalize xs.length = xn at *
      go_wp2_with fail
      go_ret2
      exact ⟨none, 0, by rw [HR.out]; rfl, by rw [HR.out]; exact In.nil _ _ _, HF7.out⟩
  · rw [if_neg he] at HRA
    have h0 := hb0 he
    subst h0
    have HR := Lib.hid HRA.out
    obtain rfl : 0 = len := HLEN.out
    have e1 : (er != 0) = true := by rw [bne_iff_ne]; exact he
    clear hb0 he HRA
    go_enter Tryd.func30, Tryd.ntmps30
    go_wp2_with fail
    go_region_held3 (fun w' => w'.cell? ⟨g, 0, none⟩ = some (.pointer (some ⟨d, 0, none⟩))) (first | assumption | go_keep)
      (first
        | (go_at_call 23; refine (CS.out w.drew).mono ?_; rintro e w5 ⟨rfl, rfl⟩)
        | (go_at_call 53; refine (CR.out w.drew (Fr.refl No w).drew).mono ?_; rintro e w6 ⟨ra, rc, rfl, r1, r2, rin, rf⟩
           have c0 := rf.cell (p := ⟨g, 0, none⟩) (v := .pointer (some ⟨d, 0, none⟩)) c0 (fun h => h)
           have RF := Lib.hid ((Fr.refl No w).drew.trans rf)
           clear rin rf r1 r2 CS CR))
    go_wp2_with fail
    go_ret2
    exact ⟨none, 0, by rw [HR.out]; rfl, by rw [HR.out]; exact In.nil _ _ _, RF.out⟩
end
end Go.Proofs.YtihahckjcedceaaDoor
