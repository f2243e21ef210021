/- Plain numbers: a colour's place among two to some number of places. No conditions. -/
import Derived.Test.YtpkiilnkiidoiaaBase
namespace Go.Proofs.Ytpkiilnkiidoiaa.CNum
open Go.ChangeShapes Go.WideShapes Go.ChangeAt Go.RowKit Go.Proofs.Ytpkiilnkiidoiaa.Core

/-- The place of a colour in a cache of b bits. -/
def sl (a b : Nat) : Nat := 506832829 * a % 4294967296 / 2 ^ (32 - b)
/-- The same for any number of bits. -/
def slV (a : Nat) (b : Int) : Int := if 1 ≤ b ∧ b ≤ 11 then (sl a b.toNat : Int) else 0
theorem slV_in (a b : Nat) (h0 : 1 ≤ b) (h1 : b ≤ 11) : slV a (b : Int) = (sl a b : Nat) := if_pos (by omega)
theorem slV_no (a : Nat) (b : Int) (h : b < 1 ∨ 11 < b) : slV a b = 0 := if_neg (by omega)
theorem sl_lt (a b : Nat) (h : b ≤ 32) : sl a b < 2 ^ b := by
  unfold sl
  rw [Nat.div_lt_iff_lt_mul (Nat.pow_pos (by omega)), ← Nat.pow_add, show b + (32 - b) = 32 by omega]
  exact Nat.mod_lt _ (by omega)
theorem sl_next (a b : Nat) (h : b < 32) : sl a (b + 1) / 2 = sl a b := by
  unfold sl
  rw [Nat.div_div_eq_div_mul, ← Nat.pow_succ, show (32 - (b + 1)).succ = 32 - b by omega]
theorem pow_le (b : Nat) (h : b ≤ 11) : 2 ^ b ≤ 2048 := Nat.pow_le_pow_right (by omega) h
theorem pow_cast (b : Nat) : ((2 ^ b : Nat) : Int) = (2 : Int) ^ b := by simp
theorem sl_lt32 (a b : Nat) (h : b ≤ 11) : sl a b < 2048 := Nat.lt_of_lt_of_le (sl_lt a b (by omega)) (pow_le b h)

/-- Whether there may be a cache of so many bits. -/
def mbV (b : Int) : Bool := decide (1 ≤ b ∧ b ≤ 11)
theorem mbV_yes (b : Int) (h0 : 1 ≤ b) (h1 : b ≤ 11) : mbV b = true := decide_eq_true ⟨h0, h1⟩
theorem mbV_no (b : Int) (h : b < 1 ∨ 11 < b) : mbV b = false := decide_eq_false (by omega)
/-- Whether there is such a place among n. -/
def hsV (n : Nat) (i : Int) : Bool := decide (0 ≤ i ∧ i < n)
theorem hsV_yes (n : Nat) (i : Int) (h0 : 0 ≤ i) (h1 : i < n) : hsV n i = true := decide_eq_true ⟨h0, h1⟩
theorem hsV_no (n : Nat) (i : Int) (h : i < 0 ∨ n ≤ i) : hsV n i = false := decide_eq_false (by omega)

/-- Numbers in a block. -/
def row (f : Nat → Nat) (n : Nat) : Array Value := ((List.range n).map fun k => Value.int .u32 (f k)).toArray
theorem row_size (f : Nat → Nat) (n : Nat) : (row f n).size = n := by simp [row]
theorem row_at (f : Nat → Nat) (n k : Nat) (h : k < n) : (row f n)[k]? = some (.int .u32 (f k)) := by
  simp [row, h]
theorem row_ext {xs : Array Value} {f : Nat → Nat} {n : Nat} (hs : xs.size = n) (h : ∀ j, j < n → xs[j]? = some (.int .u32 (f j))) : xs = row f n := by
  apply Array.ext_getElem?
  intro j
  by_cases hj : j < n
  · rw [h j hj, row_at _ _ _ hj]
  · rw [Array.getElem?_eq_none (by omega), Array.getElem?_eq_none (by rw [row_size]; omega)]
/-- What stands where, once z is put into place k. -/
def upd (f : Nat → Nat) (k z : Nat) : Nat → Nat := fun j => if j = k then z else f j
theorem upd_same (f : Nat → Nat) (k z : Nat) : upd f k z k = z := if_pos rfl
theorem row_set (f : Nat → Nat) (n k z : Nat) : (row f n).setIfInBounds k (.int .u32 z) = row (upd f k z) n := by
  refine row_ext (by simp [row_size]) fun j hj => ?_
  rw [Array.getElem?_setIfInBounds, row_at _ _ _ hj, row_size]
  unfold upd
  by_cases e : k = j
  · subst e; simp [hj]
  · have : ¬ j = k := fun h => e h.symm
    simp [e, this]
theorem row_made (n : Nat) : madeCells #[.int .u32 0] n = row (fun _ => 0) n := by
  refine row_ext (by simp [size_madeCells]) fun j hj => ?_
  simp [madeCells, hj, Nat.mod_one]
theorem info32 : (Try.prog.info? 35).map (fun i => (i.zero, i.size, i.bytes)) = some (some (.int .u32 0), 1, 4) := by kernel_rfl
theorem make_row (w : World) (n : Nat) (hn : n ≤ 1000000) : (Instr.makeSlice 24 (.int .i64 n) (.int .i64 n)).run Try.prog w = .ok (.slice (some ⟨w.heap.size, 0, none⟩) n n) (w.alloc (.cells (row (fun _ => 0) n) 35)) := by
  obtain ⟨i0, hi, hz0, hz1, hz2⟩ := info_parts info32
  have := run_make (P := Try.prog) w 24 35 i0 (.int .u32 0) Try.underlying24 hi hz0 .i64 .i64 n n (by omega) (by omega) (by rw [hz2]; omega) (by omega)
  rw [hz1] at this
  rw [this]
  simp [Value.cells, row_made]
end Go.Proofs.Ytpkiilnkiidoiaa.CNum
