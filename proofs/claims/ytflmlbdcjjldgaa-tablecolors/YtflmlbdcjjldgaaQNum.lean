/- Plain facts: numbers in a row of memory that are sorted in place: what a swap makes of them, what stays. No function of the program. No conditions. -/
import Derived.Test.YtflmlbdcjjldgaaBase
import Derived.Sort.AssemblyPlain
import Derived.Sort.Row
import Derived.CellFam
import Derived.BigGuard
import Derived.BigCall
import Derived.CellFam
import Derived.Deep.Draws
import Derived.Deep.Cut
import Derived.Deep.CutRange
namespace Go.Proofs.Ytflmlbdcjjldgaa.QNum
set_option linter.unusedVariables false
open Go.ChangeShapes Go.WideShapes Go.ChangeAt Go.RowKit Go.Sort Go.Proofs.Ytflmlbdcjjldgaa.Core

/-- Less, of colours. -/
def cl (x y : Nat) : Bool := decide (x < y)
theorem cl_swo : SWO cl where
  irrefl x := by simp [cl]
  trans x y z h k := by simp [cl] at *; omega
  ntrans x y z h k := by simp [cl] at *; omega
theorem cl_yes {x y : Nat} (h : x < y) : cl x y = true := decide_eq_true h
theorem cl_no {x y : Nat} (h : ¬ x < y) : cl x y = false := decide_eq_false h
/-- The row from o on of block g holds d; of what was there in w nothing else has turned. -/
structure Row (w : World) (g o : Nat) (d : Array Nat) (wr : World) : Prop where
  cell : ∀ t, t < d.size → wr.cell? ⟨g, o + t, none⟩ = some (.int .u32 (d[t]! : Nat))
  free : ∀ t, t < d.size → wr.frozen? ⟨g, o + t, none⟩ = false
  lt : g < w.heap.size
  upd : Upd (fun k => k = g) w wr
theorem Row.self {w wr : World} {g o : Nat} {d : Array Nat} (h : Row w g o d wr) : Row wr g o d wr := ⟨h.cell, h.free, Nat.lt_of_lt_of_le h.lt h.upd.size, Upd.refl _ _⟩
theorem Row.trans {w w1 w2 : World} {g o : Nat} {d e : Array Nat} (h : Row w g o d w1) (k : Row w1 g o e w2) : Row w g o e w2 := ⟨k.cell, k.free, h.lt, h.upd.trans k.upd⟩
theorem Row.drewN {w wr : World} {g o : Nat} {d : Array Nat} (h : Row w g o d wr) (q : Nat) : Row w g o d (wr.drewN q) := ⟨h.cell, h.free, h.lt, h.upd.drewN q⟩
theorem Row.glt {w wr : World} {g o : Nat} {d : Array Nat} (h : Row w g o d wr) : g < wr.heap.size := Nat.lt_of_lt_of_le h.lt h.upd.size
theorem Row.alloc {w wr : World} {g o : Nat} {d : Array Nat} (h : Row w g o d wr) (ob : Obj) : Row w g o d (wr.alloc ob) :=
  ⟨fun t ht => (World.cell?_of_block (w := wr) (a := ⟨g, o + t, none⟩) (Below.heap_alloc _ _ _ h.glt)).trans (h.cell t ht), fun t ht => (World.frozen?_of_block (w := wr) (a := ⟨g, o + t, none⟩) (Below.heap_alloc _ _ _ h.glt)).trans (h.free t ht), h.lt, h.upd.alloc ob⟩
theorem Row.below {w wr w2 : World} {g o : Nat} {d : Array Nat} (h : Row w g o d wr) (b : Below wr.heap.size wr w2) : Row w g o d w2 :=
  ⟨fun t ht => (b.cell (p := ⟨g, o + t, none⟩) h.glt).trans (h.cell t ht), fun t ht => (b.frozen (p := ⟨g, o + t, none⟩) h.glt).trans (h.free t ht), h.lt, h.upd.trans (Upd.ofBelow b)⟩
/-- A store elsewhere, into a block that was not there in w. -/
theorem Row.other {w wr : World} {g o : Nat} {d : Array Nat} (h : Row w g o d wr) {p : Addr} (hp : w.heap.size ≤ p.block) (v : Value) : Row w g o d (wr.setCell p v) := by
  have hg := h.lt
  have e : g ≠ p.block := by omega
  refine ⟨fun t ht => (World.cell?_of_block (w := wr) (a := ⟨g, o + t, none⟩) (Below.heap_setCell _ _ _ _ e)).trans (h.cell t ht), fun t ht => by rw [World.frozen?_setCell]; exact h.free t ht, h.lt, ?_⟩
  exact ⟨h.upd.os, h.upd.tape, h.upd.output, by have := h.upd.size; simpa [World.setCell] using this, fun k hk hs => (Below.heap_setCell _ _ _ _ (by omega)).trans (h.upd.block k hk hs)⟩
theorem Row.set {w wr : World} {g o : Nat} {d : Array Nat} (h : Row w g o d wr) (i x : Nat) (hi : i < d.size) : Row w g o (d.setIfInBounds i x) (wr.setCell ⟨g, o + i, none⟩ (.int .u32 x)) := by
  refine ⟨fun t ht => ?_, fun t ht => ?_, h.lt, ?_⟩
  · have ht' : t < d.size := by simpa using ht
    by_cases e : t = i
    · subst e
      rw [getElem!_set_same d t x ht', World.cell?_setCell_same _ _ _ (h.cell t ht')]
    · rw [getElem!_set_other d i t x e, World.cell?_setCell_other _ _ _ _ (fun q => e (by injection q with _ q2; omega))]
      exact h.cell t ht'
  · rw [World.frozen?_setCell]
    exact h.free t (by simpa using ht)
  · exact h.upd.setCell (p := ⟨g, o + i, none⟩) rfl _
/-- Two that change places. -/
theorem Row.swp {w wr : World} {g o : Nat} {d : Array Nat} (h : Row w g o d wr) (i j : Nat) (hi : i < d.size) (hj : j < d.size) :
    Row w g o (Sort.swp d i j) ((wr.setCell ⟨g, o + i, none⟩ (.int .u32 (d[j]! : Nat))).setCell ⟨g, o + j, none⟩ (.int .u32 (d[i]! : Nat))) :=
  (h.set i _ hi).set j _ (by simpa using hj)

theorem nt {b : Bool} (h : (!b) = true) : b = false := by cases b <;> simp_all
theorem nf {b : Bool} (h : (!b) = false) : b = true := by cases b <;> simp_all
theorem ins_go (a j : Nat) (d : Array Nat) (hj : a < j) (hl : cl d[j]! d[j - 1]! = true) : insInner cl a j d = insInner cl a (j - 1) (swp d j (j - 1)) := by
  cases j with
  | zero => omega
  | succ k => rw [insInner, if_pos (by simp only [Nat.add_sub_cancel] at hl; simp [hl]; omega)]; rfl
theorem ins_stop (a j : Nat) (d : Array Nat) (h : j ≤ a ∨ cl d[j]! d[j - 1]! = false) : insInner cl a j d = d := by
  cases j with
  | zero => rw [insInner]
  | succ k =>
    rw [insInner, if_neg]
    simp only [Nat.add_sub_cancel] at h
    intro c
    simp at c
    rcases h with h | h
    · omega
    · rw [c.2] at h; cases h
theorem outer_go (a b i : Nat) (d : Array Nat) (h : i < b) : insOuter cl a b i d = insOuter cl a b (i + 1) (insInner cl a i d) := by rw [insOuter, if_pos h]
theorem outer_stop (a b i : Nat) (d : Array Nat) (h : ¬ i < b) : insOuter cl a b i d = d := by rw [insOuter, if_neg h]
end Go.Proofs.Ytflmlbdcjjldgaa.QNum
