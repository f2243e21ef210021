/- Contracts: the document's own reading of bits (ref.Bits, ref.Look, Eye.Num). Conditions: the slice reads as bytes, and they are few. -/
import Derived.Test.YtgjpcjnhggcfdaaDoorBitin
namespace Go.Proofs.YtgjpcjnhggcfdaaDoor.Eyes
open Go.ChangeShapes Go.WideShapes Go.ChangeAt Go.RowKit Go.Proofs.YtgjpcjnhggcfdaaDoor.Core Go.Proofs.YtgjpcjnhggcfdaaDoor.Le Go.Proofs.YtgjpcjnhggcfdaaDoor.Bitin


/-- Bit j of the bytes. -/
def bt (c : Nat → Nat) (j : Nat) : Nat := c (j / 8) / 2 ^ (j % 8) % 2
theorem bt_le (c : Nat → Nat) (j : Nat) : bt c j ≤ 1 := by unfold bt; omega
theorem bt_at (c : Nat → Nat) (k m : Nat) (h : m < 8) : bt c (8 * k + m) = c k / 2 ^ m % 2 := by
  unfold bt
  rw [show (8 * k + m) / 8 = k from by omega, show (8 * k + m) % 8 = m from by omega]
theorem bt_val (c : Nat → Nat) (hc : ∀ k, c k ≤ 255) (len j : Nat) (h : j < 8 * len) : val c len j 1 = bt c j := by
  have := take_eq c hc (j / 8) (j % 8) 1 1 len (by omega) (by omega)
  rw [show 8 * (j / 8) + j % 8 = j from by omega] at this
  rw [← this]
  simp [num, bt]
theorem cells_succ (c : Nat → Nat) (n : Nat) : cells c (n + 1) = cells c n ++ [.int .u8 (c n)] := by
  simp [cells, List.range_succ]
theorem div_bd (x : Nat) (m : Nat) (h : x ≤ 255) : x / 2 ^ m ≤ 255 := Nat.le_trans (Nat.div_le_self _ _) h
theorem div_succ (x m : Nat) : x / 2 ^ m / 2 = x / 2 ^ (m + 1) := by rw [Nat.div_div_eq_div_mul, Nat.pow_succ]

end Go.Proofs.YtgjpcjnhggcfdaaDoor.Eyes
