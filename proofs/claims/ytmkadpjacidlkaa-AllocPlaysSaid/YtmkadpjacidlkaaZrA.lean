/-
  Layer 7, the program's own device in memory: its block, the zones' block, a row of bytes for each zone.
-/
import Derived.Test.YtmkadpjacidlkaaZoA
import Derived.Test.YtmkadpjacidlkaaOpenB
import Derived.Test.YtmkadpjacidlkaaHeld
import Derived.BigQuiet
import Derived.Lib.Hide
import Derived.Lib.SlBytesConst
import Derived.Deep.WholeRow
import Derived.Laws.MakeOwn
namespace Go.Proofs.Ytmkadpjacidlkaa
set_option linter.unusedVariables false
open Go.RowKit

/-- A zone as it lies in memory: its slice's address and capacity, and what it has. -/
structure Zm where
  a : Option Addr
  c : Nat
  z : Zn
def Zm.g (x : Zm) : Option Nat := (Value.slice x.a x.z.b.length x.c).ownBlock
def zsC : List Zm → List Value
  | [] => []
  | x :: xs => .slice x.a x.z.b.length x.c :: .int .i64 (x.z.f : Int) :: .int .i64 (x.z.s : Int) :: zsC xs
theorem zsC_length : ∀ xs : List Zm, (zsC xs).length = xs.length * 3
  | [] => rfl
  | x :: xs => by
    show (zsC xs).length + 1 + 1 + 1 = (xs.length + 1) * 3
    rw [zsC_length xs]
    omega
theorem zsC_get : ∀ (xs : List Zm) (i : Nat) (x : Zm), xs[i]? = some x → (zsC xs)[i * 3]? = some (.slice x.a x.z.b.length x.c) ∧ (zsC xs)[i * 3 + 1]? = some (.int .i64 (x.z.f : Int)) ∧ (zsC xs)[i * 3 + 2]? = some (.int .i64 (x.z.s : Int))
  | [], _, _, h => by cases h
  | y :: ys, 0, x, h => by
    obtain rfl := Option.some.inj h
    exact ⟨rfl, rfl, rfl⟩
  | y :: ys, i + 1, x, h => by
    have := zsC_get ys i x h
    rw [show (i + 1) * 3 = i * 3 + 3 by omega, show i * 3 + 3 + 1 = i * 3 + 1 + 3 by omega, show i * 3 + 3 + 2 = i * 3 + 2 + 3 by omega]
    exact this
theorem zsC_set : ∀ (xs : List Zm) (i : Nat) (x : Zm), zsC (xs.set i x) = (((zsC xs).set (i * 3) (.slice x.a x.z.b.length x.c)).set (i * 3 + 1) (.int .i64 (x.z.f : Int))).set (i * 3 + 2) (.int .i64 (x.z.s : Int))
  | [], _, _ => rfl
  | y :: ys, 0, x => rfl
  | y :: ys, i + 1, x => by
    rw [show (i + 1) * 3 = i * 3 + 3 by omega, show i * 3 + 3 + 1 = i * 3 + 1 + 3 by omega, show i * 3 + 3 + 2 = i * 3 + 2 + 3 by omega]
    show _ :: _ :: _ :: zsC (ys.set i x) = _ :: _ :: _ :: _
    rw [zsC_set ys i x]
/-- The device's cells. -/
abbrev dvC (n s o : Int) (zb : Nat) (l : Nat) (dn : Int) (ar : Bool) (lf : Int) (dw : Bool) : Array Value := #[.int .i64 n, .int .i64 s, .int .i64 o, .slice (some ⟨zb, 0, none⟩) l l, .int .i64 dn, .bool ar, .int .i64 lf, .bool dw]
/-- How the power's cells tell it. -/
def armA (m : Dev) (ar : Bool) (lf : Int) : Prop := ar = m.arm.isSome ∧ (Lit.int .i64 lf).wf = true ∧ ∀ k, m.arm = some k → lf = (k : Int)
structure DzAt (w : World) (d zb : Nat) (xs : List Zm) (m : Dev) (ar : Bool) (lf : Int) : Prop where
  hd : At w d 65 (dvC (m.zs.length : Int) (m.size : Int) (m.opn : Int) zb m.zs.length (m.done : Int) ar lf m.down)
  hz : At w zb 67 (zsC xs).toArray
  ne : d ≠ zb
  mz : xs.map Zm.z = m.zs
  arm : armA m ar lf
  row : ∀ (i : Nat) (x : Zm), xs[i]? = some x → Row w (fun k => k ≠ d ∧ k ≠ zb) (.slice x.a x.z.b.length x.c) x.z.b
  two : ∀ (i j : Nat) (x y : Zm) (k : Nat), xs[i]? = some x → xs[j]? = some y → x.g = some k → y.g = some k → i = j
/-- THE DEVICE: all its blocks are of F. -/
def Dz (w : World) (d : Nat) (F : Nat → Prop) (m : Dev) : Prop := (∀ k, F k → k < w.heap.size) ∧ ∃ zb xs ar lf, DzAt w d zb xs m ar lf ∧ F d ∧ F zb ∧ ∀ x ∈ xs, ∀ k, x.g = some k → F k
theorem DzAt.len {w : World} {d zb : Nat} {xs : List Zm} {m : Dev} {ar : Bool} {lf : Int} (h : DzAt w d zb xs m ar lf) : xs.length = m.zs.length := by rw [← h.mz, List.length_map]
theorem DzAt.keep {w w' : World} {d zb : Nat} {xs : List Zm} {m : Dev} {ar : Bool} {lf : Int} {T : Nat → Prop} (h : DzAt w d zb xs m ar lf) (f : Fr T w w') (h1 : ¬ T d) (h2 : ¬ T zb) (h3 : ∀ x ∈ xs, ∀ k, x.g = some k → ¬ T k) : DzAt w' d zb xs m ar lf := by
  refine ⟨h.hd.keep f h1, h.hz.keep f h2, h.ne, h.mz, h.arm, fun i x hx => ?_, h.two⟩
  have hr := h.row i x hx
  have : Row w (fun k => x.g = some k ∧ k ≠ d ∧ k ≠ zb) (.slice x.a x.z.b.length x.c) x.z.b := ⟨hr.1, fun k hk => ⟨hk, hr.2 k hk⟩⟩
  have := this.keep f (fun k hk => h3 x (List.mem_of_getElem? hx) k hk.1)
  exact this.sub fun k _ hk => hk.2
theorem Dz.keep {w w' : World} {d : Nat} {F T : Nat → Prop} {m : Dev} (h : Dz w d F m) (f : Fr T w w') (hn : ∀ k, F k → ¬ T k) : Dz w' d F m := by
  obtain ⟨h0, zb, xs, ar, lf, h1, h2, h3, h4⟩ := h
  exact ⟨fun k hk => Nat.lt_of_lt_of_le (h0 k hk) f.size, zb, xs, ar, lf, h1.keep f (hn _ h2) (hn _ h3) (fun x hx k hk => hn _ (h4 x hx k hk)), h2, h3, h4⟩
/-- Behind a call that works on it. -/
def MovD (d : Nat) (F : Nat → Prop) (m : Dev) (v : Value) (w : World) (e : Ending) (w' : World) : Prop :=
  e = .returned v ∧ ∃ F', Dz w' d F' m ∧ (∀ k, F' k → F k ∨ (w.heap.size ≤ k ∧ k < w'.heap.size)) ∧ Fr F w w'
/-- The device's own cells. -/
theorem DzAt.cells {w : World} {d zb : Nat} {xs : List Zm} {m : Dev} {ar : Bool} {lf : Int} (h : DzAt w d zb xs m ar lf) :
    w.cell? ⟨d, 0, none⟩ = some (.int .i64 (m.zs.length : Int)) ∧ w.cell? ⟨d, 1, none⟩ = some (.int .i64 (m.size : Int)) ∧ w.cell? ⟨d, 2, none⟩ = some (.int .i64 (m.opn : Int)) ∧ w.cell? ⟨d, 3, none⟩ = some (.slice (some ⟨zb, 0, none⟩) m.zs.length m.zs.length) ∧
    w.cell? ⟨d, 4, none⟩ = some (.int .i64 (m.done : Int)) ∧ w.cell? ⟨d, 5, none⟩ = some (.bool ar) ∧ w.cell? ⟨d, 6, none⟩ = some (.int .i64 lf) ∧ w.cell? ⟨d, 7, none⟩ = some (.bool m.down) :=
  ⟨h.hd.cell 0, h.hd.cell 1, h.hd.cell 2, h.hd.cell 3, h.hd.cell 4, h.hd.cell 5, h.hd.cell 6, h.hd.cell 7⟩
/-- The zone z, as it lies. -/
theorem DzAt.zone {w : World} {d zb : Nat} {xs : List Zm} {m : Dev} {ar : Bool} {lf : Int} (h : DzAt w d zb xs m ar lf) {z : Int} (hz : hasZ m z = true) :
    ∃ x k, z = ((k : Nat) : Int) ∧ k < m.zs.length ∧ xs[k]? = some x ∧ x.z = zoneM m z ∧ w.cell? ⟨zb, k * 3, none⟩ = some (.slice x.a x.z.b.length x.c) ∧ w.cell? ⟨zb, k * 3 + 1, none⟩ = some (.int .i64 (x.z.f : Int)) ∧ w.cell? ⟨zb, k * 3 + 2, none⟩ = some (.int .i64 (x.z.s : Int)) := by
  obtain ⟨h0, h1⟩ := hasZ_iff.1 hz
  have h2 : z.toNat < xs.length := by rw [h.len]; exact h1
  refine ⟨xs[z.toNat], z.toNat, by omega, h1, List.getElem?_eq_getElem h2, ?_, ?_⟩
  · unfold zoneM
    rw [← h.mz, List.getD_eq_getElem?_getD, List.getElem?_map, List.getElem?_eq_getElem h2]
    rfl
  · obtain ⟨g0, g1, g2⟩ := zsC_get xs z.toNat _ (List.getElem?_eq_getElem h2)
    refine ⟨?_, ?_, ?_⟩
    · rw [h.hz.cell, List.getElem?_toArray, g0]
    · rw [h.hz.cell, List.getElem?_toArray, g1]
    · rw [h.hz.cell, List.getElem?_toArray, g2]
end Go.Proofs.Ytmkadpjacidlkaa
