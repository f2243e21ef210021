/- Plain facts: numbers gathered one by one. No conditions. -/
import Derived.Test.YtcfnbbelbadmkaaMon
import Derived.Test.YtcfnbbelbadmkaaAns
namespace Go.Proofs.Ytcfnbbelbadmkaa.Gth
open Go.ChangeShapes Go.WideShapes Go.ChangeAt Go.RowKit Go.Proofs.Ytcfnbbelbadmkaa.Core Go.Proofs.Ytcfnbbelbadmkaa.Gnd

def cells (c : Nat → Int) (n : Nat) : List Value := (List.range n).map fun k => .int .i64 (c k)
theorem cells_len (c : Nat → Int) (n : Nat) : (cells c n).length = n := by simp [cells]
theorem cells_at (c : Nat → Int) (n k : Nat) (h : k < n) : (cells c n)[k]? = some (.int .i64 (c k)) := by
  simp [cells, h]
theorem cells_succ (c : Nat → Int) (n : Nat) : cells c (n + 1) = cells c n ++ [.int .i64 (c n)] := by
  simp [cells, List.range_succ]
theorem one_one (x : Int) : ∀ u ∈ [Value.int .i64 x], u.oneCell' = true := by
  intro u hu; simp at hu; subst hu; rfl
theorem info3 : (Try.prog.info? 3).map (fun i => (i.zero, i.size, i.bytes)) = some (some (.int .i64 0), 1, 8) := by kernel_rfl
/-- What is gathered so far. -/
structure Gth (w wr : World) (v : Value) (c : Nat → Int) (k : Nat) : Prop where
  own : wr.ownsRow w.heap.size 3 1 v k (cells c k)
  bel : Below w.heap.size w wr
theorem Gth.start (w : World) (c : Nat → Int) : Gth w w (.slice none 0 0) c 0 := ⟨World.ownsRow_nil _ _ _ _, Below.refl _ _⟩
theorem Gth.app {w wr w1 : World} {v v1 : Value} {c : Nat → Int} {k : Nat} {o : Obj} {x : Int} (h : Gth w wr v c k) (own : w1.ownsRow w.heap.size 3 1 v1 (k + 1) (cells c k ++ [.int .i64 x])) (gr : (wr.alloc o).grownBy w1 v.ownBlock) (hx : x = c k) : Gth w w1 v1 c (k + 1) := by
  subst hx
  exact ⟨by rw [cells_succ]; exact own, (h.bel.alloc h.bel.size o).grown gr (by have := h.bel.size; simp; omega) (fun k e => (h.own.lt k e).1)⟩
theorem Gth.ints {w wr : World} {v : Value} {c : Nat → Int} {k : Nat} (h : Gth w wr v c k) : Ints .i64 wr v k c := by
  rcases h.own.2 with ⟨rfl, h0⟩ | ⟨g, cap, cur, rfl, _⟩
  · subst h0
    exact ⟨_, _, rfl, fun i hi => by omega⟩
  · exact ⟨_, cap, rfl, fun i hi => ⟨g, 0, rfl, by rw [Nat.zero_add]; exact (h.own.cellAt i (by omega)).trans (cells_at c k i hi)⟩⟩
theorem Gth.slice {w wr : World} {v : Value} {c : Nat → Int} {k : Nat} (h : Gth w wr v c k) : ∃ a cap, v = .slice a k cap := by
  obtain ⟨a, cap, e, _⟩ := h.ints
  exact ⟨a, cap, e⟩
end Go.Proofs.Ytcfnbbelbadmkaa.Gth
