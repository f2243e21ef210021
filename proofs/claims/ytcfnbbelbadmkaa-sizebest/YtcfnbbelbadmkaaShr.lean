/- Contract: size.shares. Conditions: the slice reads as items that rise, and they are few. -/
import Derived.Test.YtcfnbbelbadmkaaSpr
namespace Go.Proofs.Ytcfnbbelbadmkaa.Shr
open Go.ChangeShapes Go.WideShapes Go.ChangeAt Go.RowKit Go.Proofs.Ytcfnbbelbadmkaa.Core Go.Proofs.Ytcfnbbelbadmkaa.Gnd Go.Proofs.Ytcfnbbelbadmkaa.Itm Go.Proofs.Ytcfnbbelbadmkaa.Mrg Go.Proofs.Ytcfnbbelbadmkaa.Pur Go.Proofs.Ytcfnbbelbadmkaa.Spr

theorem info42 : (Try.prog.info? 42).map (fun i => (i.zero, i.size, i.bytes)) = some (some (.slice none 0 0), 1, 24) := by kernel_rfl
theorem info3 : (Try.prog.info? 3).map (fun i => (i.zero, i.size, i.bytes)) = some (some (.int .i64 0), 1, 8) := by kernel_rfl
def sRow (f : Nat → Value) (n : Nat) : Array Value := ((List.range n).map f).toArray
theorem sRow_size (f : Nat → Value) (n : Nat) : (sRow f n).size = n := by simp [sRow]
theorem sRow_at (f : Nat → Value) (n k : Nat) (h : k < n) : (sRow f n)[k]? = some (f k) := by simp [sRow, h]
theorem sRow_ext {xs : Array Value} {f : Nat → Value} {n : Nat} (hs : xs.size = n) (h : ∀ j, j < n → xs[j]? = some (f j)) : xs = sRow f n := by
  apply Array.ext_getElem?
  intro j
  by_cases hj : j < n
  · rw [h j hj, sRow_at f n j hj]
  · rw [Array.getElem?_eq_none (by omega), Array.getElem?_eq_none (by rw [sRow_size]; omega)]
theorem sRow_set (f : Nat → Value) (n k : Nat) (z : Value) : (sRow f n).setIfInBounds k z = sRow (fun j => if j = k then z else f j) n := by
  refine sRow_ext (by simp [sRow_size]) fun j hj => ?_
  rw [Array.getElem?_setIfInBounds, sRow_at _ _ _ hj, sRow_size]
  by_cases e : k = j
  · subst e; simp [hj]
  · have : ¬ j = k := fun h => e h.symm
    simp [e, this]
theorem sRow_congr {f g : Nat → Value} {n : Nat} (h : ∀ k, k < n → f k = g k) : sRow f n = sRow g n :=
  sRow_ext (sRow_size _ _) fun j hj => by rw [sRow_at _ _ _ hj, h j hj]
theorem sRow_made (z : Value) (n : Nat) : madeCells #[z] n = sRow (fun _ => z) n := by
  refine sRow_ext (by simp [size_madeCells]) fun j hj => ?_
  simp [madeCells, hj, Nat.mod_one]
theorem make_ints (w : World) (n : Nat) (hn : n ≤ 10000000) : (Instr.makeSlice 22 (.int .i64 n) (.int .i64 n)).run Try.prog w = .ok (.slice (some ⟨w.heap.size, 0, none⟩) n n) (w.alloc (.cells (sRow (fun _ => .int .i64 0) n) 3)) := by
  obtain ⟨i0, hi, hz0, hz1, hz2⟩ := info_parts info3
  have := run_make (P := Try.prog) w 22 3 i0 (.int .i64 0) Try.underlying22 hi hz0 .i64 .i64 n n (by omega) (by omega) (by rw [hz2]; omega) (by omega)
  rw [hz1] at this
  rw [this]
  simp [Value.cells, sRow_made]
theorem make_rows (w : World) (n : Nat) (hn : n ≤ 10000000) : (Instr.makeSlice 52 (.int .i64 n) (.int .i64 n)).run Try.prog w = .ok (.slice (some ⟨w.heap.size, 0, none⟩) n n) (w.alloc (.cells (sRow (fun _ => .slice none 0 0) n) 42)) := by
  obtain ⟨i0, hi, hz0, hz1, hz2⟩ := info_parts info42
  have := run_make (P := Try.prog) w 52 42 i0 (.slice none 0 0) Try.underlying52 hi hz0 .i64 .i64 n n (by omega) (by omega) (by rw [hz2]; omega) (by omega)
  rw [hz1] at this
  rw [this]
  simp [Value.cells, sRow_made]
/-- A store where a slice stood turns no item. -/
theorem its_set {w : World} {v u : Value} {xs : List It} {p : Addr} {a : Option Addr} {x y : Nat} (h : Its w v xs) (hp : w.cell? p = some (.slice a x y)) : Its (w.setCell p u) v xs := by
  rcases h with h | ⟨b, off, cap, e, hl, hc⟩
  · exact .inl h
  · refine .inr ⟨b, off, cap, e, hl, fun i hi => ?_⟩
    obtain ⟨h2, h3⟩ := hc i hi
    constructor
    · rw [World.cell?_setCell_other _ _ _ _ (fun e => by rw [e] at hp; rw [hp] at h2; cases h2)]
      exact h2
    · rw [World.cell?_setCell_other _ _ _ _ (fun e => by rw [e] at hp; rw [hp] at h3; cases h3)]
      exact h3
/-- The rows so far. -/
structure Rws (w wr : World) (most k : Nat) (S : List It) (j : Value) (vs : Nat → Value) : Prop where
  box : Box wr w.heap.size 42 (sRow vs most)
  sl : ∀ i, ∃ a x y, vs i = .slice a x y
  its : ∀ i, i < k → Its wr (vs i) (rowI S i)
  joined : Its wr j (joi S k)
  bel : Below w.heap.size w wr
theorem Rws.keep {w wr w' : World} {most k : Nat} {S : List It} {j : Value} {vs : Nat → Value} (h : Rws w wr most k S j vs) (u : Below wr.heap.size wr w') : Rws w w' most k S j vs :=
  ⟨h.box.below u h.box.lt, h.sl, fun i hi => (h.its i hi).keep u, h.joined.keep u, h.bel.trans (u.mono h.bel.size)⟩
/-- A row is laid. -/
theorem Rws.put {w wr : World} {most k : Nat} {S : List It} {j r : Value} {vs : Nat → Value} (h : Rws w wr most k S j vs) (hk : k < most) (ir : Its wr r (rowI S k)) (hr : ∃ a x y, r = .slice a x y) :
    Box (wr.setCell ⟨w.heap.size, k, none⟩ r) w.heap.size 42 (sRow (fun i => if i = k then r else vs i) most) ∧ (∀ i, i < k + 1 → Its (wr.setCell ⟨w.heap.size, k, none⟩ r) (if i = k then r else vs i) (rowI S i)) ∧ (∀ i, ∃ a x y, (if i = k then r else vs i) = .slice a x y) ∧ Below w.heap.size w (wr.setCell ⟨w.heap.size, k, none⟩ r) := by
  obtain ⟨a, x, y, e⟩ := h.sl k
  have hc : wr.cell? ⟨w.heap.size, k, none⟩ = some (.slice a x y) := by rw [h.box.cell, sRow_at _ _ _ hk, e]
  refine ⟨?_, fun i hi => ?_, fun i => ?_, h.bel.setCell (p := ⟨w.heap.size, k, none⟩) (Nat.le_refl _) _⟩
  · have := h.box.set k r
    rwa [sRow_set] at this
  · by_cases e2 : i = k
    · subst e2
      rw [if_pos rfl]
      exact its_set ir hc
    · rw [if_neg e2]
      exact its_set (h.its i (by omega)) hc
  · by_cases e2 : i = k
    · rw [if_pos e2]; exact hr
    · rw [if_neg e2]; exact h.sl i
theorem its_slice {w : World} {v : Value} {xs : List It} (h : Its w v xs) : ∃ a x y, v = .slice a x y := by
  rcases h with ⟨e, _⟩ | ⟨b, off, cap, e, _⟩
  · exact ⟨none, 0, 0, e⟩
  · exact ⟨_, _, _, e⟩
theorem its_len {w : World} {v : Value} {xs : List It} (h : Its w v xs) : ∃ a y, v = .slice a xs.length y ∧ xs.length ≤ y := by
  rcases h with ⟨e, e2⟩ | ⟨b, off, cap, e, hl, _⟩
  · subst e2; exact ⟨none, 0, e, Nat.le_refl _⟩
  · exact ⟨_, _, e, hl⟩
theorem cntS_succ (xs : List It) (k : Nat) (h : k < xs.length) : cntS xs (k + 1) = cntS xs k + (if (at_ xs k).2 then 1 else 0) := by
  unfold cntS
  rw [List.take_succ_eq_append_getElem h, List.countP_append, at_get h]
  congr 1
  simp [List.countP_cons]
theorem cntS_le (xs : List It) (k : Nat) : cntS xs k ≤ k := by
  unfold cntS
  refine Nat.le_trans List.countP_le_length ?_
  rw [List.length_take]
  omega
end Go.Proofs.Ytcfnbbelbadmkaa.Shr
