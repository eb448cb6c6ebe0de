/-
  Plain mathematics of layer 4: the places of a key's probes. No program is named.
-/
import Derived.Test.YtbglicndccdaiaaDoorCrc
namespace Go.Proofs.YtbglicndccdaiaaDoor

/-- The mask of a sum, as a number. -/
def mkN (c : Nat) : Nat := (c / 32768 + c % 32768 * 131072 + 2726488792) % 4294967296
/-- The probes' first place and their step, before the rest is taken. -/
def pA (l : List UInt8) : Nat := (Crc.of l).toNat
def pD (l : List UInt8) : Nat := if mkN (pA l) % 2 = 0 then mkN (pA l) + 1 else mkN (pA l)
/-- The places of a key's probes. -/
def places (l : List UInt8) (m n : Nat) : List Nat := (List.range n).map fun i => (pA l + i * pD l) % m

theorem pA_lt (l : List UInt8) : pA l < 4294967296 := (Crc.of l).isLt
theorem mkN_lt (c : Nat) : mkN c < 4294967296 := Nat.mod_lt _ (by decide)
theorem pD_lt (l : List UInt8) : pD l < 4294967297 := by
  unfold pD
  have h := mkN_lt (pA l)
  generalize mkN (pA l) = m at h
  split <;> omega
theorem places_length (l : List UInt8) (m n : Nat) : (places l m n).length = n := by simp [places]
theorem places_succ (l : List UInt8) (m n : Nat) : places l m (n + 1) = places l m n ++ [(pA l + n * pD l) % m] := by simp [places, List.range_succ]
theorem places_take (l : List UInt8) (m n k : Nat) (h : k ≤ n) : (places l m n).take k = places l m k := by
  unfold places
  rw [← List.map_take, List.take_range, Nat.min_eq_left h]
theorem places_lt (l : List UInt8) (m n : Nat) (hm : 0 < m) : ∀ x ∈ places l m n, x < m := by
  intro x hx
  obtain ⟨i, _, rfl⟩ := List.mem_map.1 hx
  exact Nat.mod_lt _ hm
theorem places_get (l : List UInt8) (m n i : Nat) (h : i < n) : (places l m n)[i]? = some ((pA l + i * pD l) % m) := by
  simp [places, h]
theorem probe_lt (l : List UInt8) (i : Nat) (h : i ≤ 64) : pA l + i * pD l < 18446744073709551616 := by
  have h1 := pA_lt l
  have h2 := pD_lt l
  have h3 : i * pD l ≤ 64 * 4294967297 := Nat.mul_le_mul h (Nat.le_of_lt h2)
  omega
end Go.Proofs.YtbglicndccdaiaaDoor
