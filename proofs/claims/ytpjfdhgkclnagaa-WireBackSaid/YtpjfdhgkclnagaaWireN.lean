/-
  Items as bytes, for the walk of WireBack.
-/
import Derived.Test.YtpjfdhgkclnagaaWireM
import Derived.Test.YtpjfdhgkclnagaaWireH
namespace Go.Proofs.Ytpjfdhgkclnagaa
set_option linter.unusedVariables false
open Go.RowKit

theorem not_u8 (x : UInt8) : bits .xor .u8 255 (x.toNat : Int) = ((~~~x).toNat : Int) := by
  have : ∀ y : Fin 256, bits .xor .u8 255 (y.val : Int) = ((255 - y.val : Nat) : Int) := by decide +kernel
  have h := this ⟨x.toNat, x.toNat_lt⟩
  rw [h]
  congr 1
  rw [UInt8.toNat_not]
  rfl
/-- The byte that a number is, modulo 256. -/
def lowB (n : Int) : UInt8 := UInt8.ofNat (n % 256).toNat
theorem lowB_nat (n : Int) : ((lowB n).toNat : Int) = n % 256 := by
  unfold lowB
  rw [toNat_ofNat (by omega)]
  omega
def encI (x : It) : List UInt8 := if x.k = 1 then (if x.n < 0 then [] else enc x.n.toNat) else if x.k = 2 then enc x.b.length ++ x.b else if x.k = 3 then x.b else if x.k = 4 then [lowB x.n] else []
def badI (x : It) : Bool := decide (x.k = 1) && decide (x.n < 0)
def encIs (l : List It) : List UInt8 := l.flatMap encI
def badIs (l : List It) : Bool := l.any badI
theorem encIs_snoc (l : List It) (x : It) : encIs (l ++ [x]) = encIs l ++ encI x := by simp [encIs]
theorem encIs_cons (l : List It) (x : It) : encIs (x :: l) = encI x ++ encIs l := by simp [encIs]
theorem badIs_snoc (l : List It) (x : It) : badIs (l ++ [x]) = (badIs l || badI x) := by simp [badIs]
theorem encI_le (x : It) (h : x.b.length ≤ 500) (hn : x.n ≤ 9223372036854775807) : (encI x).length ≤ 509 := by
  unfold encI
  split
  · split
    · simp
    · have := enc_len9 (n := x.n.toNat) (by omega)
      omega
  · split
    · have := enc_len9 (n := x.b.length) (by omega)
      rw [List.length_append]
      omega
    · split
      · omega
      · split <;> simp
theorem encIs_le (l : List It) (h : ∀ x ∈ l, x.b.length ≤ 500 ∧ x.n ≤ 9223372036854775807) : (encIs l).length ≤ 509 * l.length := by
  induction l with
  | nil => simp [encIs]
  | cons t l ih =>
    rw [encIs_cons, List.length_append, List.length_cons]
    have h1 := h t (List.mem_cons_self ..)
    have h9 := encI_le t h1.1 h1.2
    have := ih fun x hx => h x (List.mem_cons_of_mem _ hx)
    omega
theorem badIs_no {l : List It} (h : badIs l = false) {j : Nat} {x : It} (hx : l[j]? = some x) (hk : x.k = 1) : 0 ≤ x.n := by
  unfold badIs at h
  rw [List.any_eq_false] at h
  have := h x (List.mem_of_getElem? hx)
  unfold badI at this
  simp [hk] at this
  omega
/-- A row beside the writer: what is wanted. -/
def Beside (w wr : World) (B : Nat) (S T : Nat → Prop) (v : Value) (p : List UInt8) : Prop := Row wr T v p ∧ ∀ x, T x → w.heap.size ≤ x ∧ x ≠ B ∧ ¬ S x ∧ x < wr.heap.size
theorem Beside.ret {w wr w' : World} {B : Nat} {S T : Nat → Prop} {v : Value} {p q : List UInt8} {bad : Bool} {e : Ending} (h : Beside w wr B S T v p) (hr : WrRet B S q bad wr e w') : Beside w w' B (Gr S wr w') T v p := by
  obtain ⟨_, _, h2⟩ := hr
  refine ⟨h.1.keep h2 fun k hk hS => ?_, fun x hx => ?_⟩
  · obtain ⟨h3, h4, h5, h6⟩ := h.2 k hk
    exact hS.elim (fun e => h4 e) h5
  · obtain ⟨h3, h4, h5, h6⟩ := h.2 x hx
    refine ⟨h3, h4, fun hg => ?_, Nat.lt_of_lt_of_le h6 h2.size⟩
    rcases hg with hg | hg
    · exact h5 hg
    · omega
theorem Beside.keep {w wr w' : World} {B : Nat} {S T : Nat → Prop} {v : Value} {p : List UInt8} (h : Beside w wr B S T v p) (f : Fr No wr w') : Beside w w' B S T v p :=
  ⟨h.1.keep f fun _ _ h => h, fun x hx => by
    obtain ⟨h3, h4, h5, h6⟩ := h.2 x hx
    exact ⟨h3, h4, h5, Nat.lt_of_lt_of_le h6 f.size⟩⟩
/-- What an append to what is wanted leaves. -/
theorem Beside.grow {w wr w' : World} {B : Nat} {S T : Nat → Prop} {v v' : Value} {p q : List UInt8} {bad : Bool} (hw : WInv w wr B S p bad) {r : List UInt8} (h : Beside w wr B S T v r) (hrow : Row w' (Gr T wr w') v' q) (f : Fr T wr w') :
    WInv w w' B S p bad ∧ Beside w w' B S (Gr T wr w') v' q := by
  have hS : ∀ k, S k → k < wr.heap.size := by
    obtain ⟨_, _, _, _, hS⟩ := hw.wr
    exact hS
  refine ⟨⟨hw.lo, hw.fr.then_ f fun k hk hT => ?_, hw.wr.keep f (fun hT => (h.2 B hT).2.1 rfl) fun k hk hT => (h.2 k hT).2.2.1 hk, hw.up⟩, hrow, fun x hx => ?_⟩
  · have := (h.2 k hT).1
    omega
  · rcases hx with hx | hx
    · obtain ⟨h3, h4, h5, h6⟩ := h.2 x hx
      exact ⟨h3, h4, h5, Nat.lt_of_lt_of_le h6 f.size⟩
    · have h1 := hw.fr.size
      have h2 := hw.wr.lt
      exact ⟨by omega, by omega, fun h => by have := hS x h; omega, hx.2⟩
end Go.Proofs.Ytpjfdhgkclnagaa
