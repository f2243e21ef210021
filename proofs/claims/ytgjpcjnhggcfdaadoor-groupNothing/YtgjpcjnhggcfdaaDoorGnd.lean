/- Plain facts: slices of integers that are read, rows of sixteen numbers. No conditions. -/
import Derived.Test.YtgjpcjnhggcfdaaDoorBase
namespace Go.Proofs.YtgjpcjnhggcfdaaDoor.Gnd
open Go.ChangeShapes Go.WideShapes Go.ChangeAt Go.RowKit Go.Proofs.YtgjpcjnhggcfdaaDoor.Core

/-- A slice of integers of one kind: its numbers are told by c. -/
def Ints (k : IntKind) (w : World) (v : Value) (len : Nat) (c : Nat → Int) : Prop :=
  ∃ a cap, v = .slice a len cap ∧ ∀ i, i < len → ∃ b off, a = some ⟨b, off, none⟩ ∧ w.cell? ⟨b, off + i, none⟩ = some (.int k (c i))
theorem Ints.keep {k : IntKind} {w w' : World} {v : Value} {len : Nat} {c : Nat → Int} (h : Ints k w v len c) (u : Below w.heap.size w w') : Ints k w' v len c := by
  obtain ⟨a, cap, e, hc⟩ := h
  refine ⟨a, cap, e, fun i hi => ?_⟩
  obtain ⟨b, off, e2, h2⟩ := hc i hi
  exact ⟨b, off, e2, (u.cell (p := ⟨b, off + i, none⟩) (lt_of_cell h2)).trans h2⟩
theorem Ints.congr {k : IntKind} {w : World} {v : Value} {len : Nat} {c d : Nat → Int} (h : Ints k w v len c) (e : ∀ i, i < len → c i = d i) : Ints k w v len d := by
  obtain ⟨a, cap, e1, hc⟩ := h
  refine ⟨a, cap, e1, fun i hi => ?_⟩
  obtain ⟨b, off, e2, h2⟩ := hc i hi
  exact ⟨b, off, e2, by rw [h2, e i hi]⟩
theorem ints_of_row {w : World} {a : Option Addr} {len cap : Nat} {zs : List Int}
    (h : (a = none ∧ len = 0 ∧ cap = 0 ∧ zs = []) ∨
      ∃ x, a = some x ∧ len ≤ cap ∧ cap ≤ maxLen ∧ zs.length = cap ∧ (∀ i, i < zs.length → w.cell? (x.add i) = some (.int .i64 (zs.getD i 0))) ∧ ∀ n ∈ zs, (Lit.int .i64 n).wf = true) :
    Ints .i64 w (.slice a len cap) len (fun k => zs.getD k 0) ∧ ∀ k, -9223372036854775808 ≤ zs.getD k 0 ∧ zs.getD k 0 ≤ 9223372036854775807 := by
  rcases h with ⟨rfl, rfl, rfl, rfl⟩ | ⟨x, rfl, h1, h2, hz, hc, hwf⟩
  · exact ⟨⟨none, 0, rfl, fun i hi => by omega⟩, fun k => by simp⟩
  · refine ⟨⟨some x, cap, rfl, fun i hi => ?_⟩, fun k => ?_⟩
    · have h3 := hc i (by omega)
      obtain ⟨b, off, spot⟩ := x
      have hspot : spot = none := by
        have h0 := hc 0 (by omega)
        simpa [Addr.add] using World.cell?_spot h0
      subst hspot
      exact ⟨b, off, rfl, by rw [← Go.WideShapes.add_plain]; exact h3⟩
    · by_cases hk : k < zs.length
      · have hx : zs.getD k 0 ∈ zs := by
          rw [List.getD_eq_getElem?_getD, List.getElem?_eq_getElem hk]; exact List.getElem_mem hk
        exact bounds_i64 (hwf _ hx)
      · rw [List.getD_eq_getElem?_getD, List.getElem?_eq_none (by omega)]; simp

/-- Sixteen numbers in a block. -/
def arr (f : Nat → Nat) : Array Value := ((List.range 16).map fun k => Value.int .u32 (f k)).toArray
theorem arr_size (f : Nat → Nat) : (arr f).size = 16 := by simp [arr]
theorem arr_at (f : Nat → Nat) (k : Nat) (h : k < 16) : (arr f)[k]? = some (.int .u32 (f k)) := by
  simp [arr, h]
theorem arr_set (f : Nat → Nat) (k z : Nat) (h : k < 16) : (arr f).setIfInBounds k (.int .u32 z) = arr (fun j => if j = k then z else f j) := by
  apply Array.ext_getElem?
  intro j
  rw [Array.getElem?_setIfInBounds]
  by_cases hj : j < 16
  · rw [arr_at _ j hj, arr_at _ j hj, arr_size]
    by_cases e : k = j
    · subst e; simp [hj]
    · have : ¬ j = k := fun h => e h.symm
      simp [e, this]
  · rw [Array.getElem?_eq_none (xs := arr f) (by rw [arr_size]; omega), Array.getElem?_eq_none (xs := arr _) (by rw [arr_size]; omega), arr_size]
    split
    · omega
    · rfl
theorem arr_congr {f g : Nat → Nat} (h : ∀ k, k < 16 → f k = g k) : arr f = arr g := by
  apply Array.ext_getElem?
  intro j
  by_cases hj : j < 16
  · rw [arr_at _ j hj, arr_at _ j hj, h j hj]
  · rw [Array.getElem?_eq_none (xs := arr f) (by rw [arr_size]; omega), Array.getElem?_eq_none (xs := arr _) (by rw [arr_size]; omega)]
theorem arr_one (f : Nat → Nat) : ∀ v ∈ (arr f).toList, v.oneCell' = true := by
  intro v hv
  simp only [arr, List.mem_map] at hv
  obtain ⟨_, _, rfl⟩ := hv
  rfl
theorem arr_zero : arr (fun _ => 0) = #[.int .u32 0, .int .u32 0, .int .u32 0, .int .u32 0, .int .u32 0, .int .u32 0, .int .u32 0, .int .u32 0, .int .u32 0, .int .u32 0, .int .u32 0, .int .u32 0, .int .u32 0, .int .u32 0, .int .u32 0, .int .u32 0] := rfl
end Go.Proofs.YtgjpcjnhggcfdaaDoor.Gnd
