/- Contracts: code.One; slices.ContainsFunc over the lengths that may not be. Conditions: the slice reads as integers, and they are few. -/
import Derived.Test.YtgjpcjnhggcfdaaDoorEach
namespace Go.Proofs.YtgjpcjnhggcfdaaDoor.One
open Go.ChangeShapes Go.WideShapes Go.ChangeAt Go.RowKit Go.Proofs.YtgjpcjnhggcfdaaDoor.Core Go.Proofs.YtgjpcjnhggcfdaaDoor.Gnd Go.Proofs.YtgjpcjnhggcfdaaDoor.Math Go.Proofs.YtgjpcjnhggcfdaaDoor.Each

theorem one15 (i l s m : Int) (g1 g2 : Nat) (hne : g1 ≠ g2) (w : World) (b1 : Box w g1 3 #[.int .i64 s]) (b2 : Box w g2 3 #[.int .i64 m]) (hm0 : 0 ≤ m) (hm : m ≤ 100000) :
    Calls Tryd.prog 64 (#[.int .i64 i, .int .i64 l] ++ #[.pointer (some ⟨g1, 0, none⟩), .pointer (some ⟨g2, 0, none⟩)]) w fun e w' =>
      e = .returned (.tuple #[]) ∧ w' = (w.setCell ⟨g1, 0, none⟩ (.int .i64 i)).setCell ⟨g2, 0, none⟩ (.int .i64 (m + 1)) := by
  have c1 : w.cell? ⟨g1, 0, none⟩ = some (.int .i64 s) := b1.cell 0
  have f1 := b1.free 0
  have b3 := b2.other (p := ⟨g1, 0, none⟩) hne.symm (.int .i64 i)
  have c2 : (w.setCell ⟨g1, 0, none⟩ (.int .i64 i)).cell? ⟨g2, 0, none⟩ = some (.int .i64 m) := b3.cell 0
  have f2 := b3.free 0
  clear b1 b2 b3
  go_enter Tryd.func64, Tryd.ntmps64
  go_wp2
  go_end0
  exact ⟨rfl, rfl⟩
/-- What One has found behind the first i lengths. -/
def InvOne (w : World) (c : Nat → Int) (i : Nat) (wr : World) : Prop :=
  Box wr w.heap.size 3 #[.int .i64 (sel c i : Int)] ∧ Box wr (w.heap.size + 1) 3 #[.int .i64 (many c i : Int)] ∧ Below w.heap.size w wr
theorem two_start (w : World) (T U : TypeId) (x y : Array Value) : Box ((w.alloc (.cells x T)).alloc (.cells y U)) w.heap.size T x ∧ Box ((w.alloc (.cells x T)).alloc (.cells y U)) (w.heap.size + 1) U y ∧ Below w.heap.size w ((w.alloc (.cells x T)).alloc (.cells y U)) := by
  refine ⟨(Box.made w T x).alloc _, ?_, ((Below.refl _ w).alloc (Nat.le_refl _) _).alloc (by simp) _⟩
  have := Box.made (w.alloc (.cells x T)) U y
  simpa using this
theorem InvOne.next {w wr : World} {c : Nat → Int} {i : Nat} (h : InvOne w c i wr) (hc : c i ≠ 0) :
    InvOne w c (i + 1) ((wr.setCell ⟨w.heap.size, 0, none⟩ (.int .i64 i)).setCell ⟨w.heap.size + 1, 0, none⟩ (.int .i64 ((many c i : Int) + 1))) := by
  obtain ⟨h1, h2, h3⟩ := h
  have e1 : sel c (i + 1) = i := by simp [sel, hc]
  have e2 : (many c (i + 1) : Int) = (many c i : Int) + 1 := by simp [many, hc]
  refine ⟨?_, ?_, (h3.setCell (p := ⟨w.heap.size, 0, none⟩) (Nat.le_refl _) _).setCell (p := ⟨w.heap.size + 1, 0, none⟩) (Nat.le_succ _) _⟩
  · rw [e1]
    exact (h1.set 0 _).other (by simp) _
  · rw [e2]
    exact (h2.other (by simp) _).set 0 _
theorem one8 (v : Value) (len : Nat) (c : Nat → Int) (hl : len ≤ 100000) (w : World) (src : Ints .i64 w v len c) :
    Calls Tryd.prog 49 #[v] w fun e w' => e = .returned (.tuple #[.int .i64 (if many c len = 1 then (sel c len : Int) else 0), .bool (decide (many c len = 1))]) ∧ Below w.heap.size w w' := by
  have eg : ∀ args w, (callFunc 64 args).run Tryd.prog w = .ok (.enter 64 args) w := enters_of Tryd.func64 (by kernel_rfl) rfl
  have SRC := hide src
  have ML := hide (many_le c len)
  clear src
  go_enter Tryd.func49, Tryd.ntmps49
  go_wp2_with fail
  refine (each14 64 eg _ v len c hl (InvOne w c) _ (fun i wr h => (unhide SRC).keep h.2.2) (two_start w 3 3 _ _) ?_ ?_).mono ?_
  · intro i wr hi hc h
    unfold InvOne at *
    simp only [sel, many, hc, if_true, Nat.add_zero]
    exact h
  · intro i wr hi hc h
    have := many_le c i
    exact (one15 i (c i) _ _ _ _ (by omega) wr h.1 h.2.1 (by omega) (by omega)).mono fun e w' ⟨e1, e2⟩ => ⟨e1, e2 ▸ h.next hc⟩
  · rintro e w' ⟨rfl, h1, h2, h3⟩
    have c1 : w'.cell? ⟨w.heap.size, 0, none⟩ = some (.int .i64 (sel c len : Int)) := h1.cell 0
    have c2 : w'.cell? ⟨w.heap.size + 1, 0, none⟩ = some (.int .i64 (many c len : Int)) := h2.cell 0
    have BEL := hide h3
    clear h1 h2 h3
    by_cases hm : many c len = 1
    · have hm' : (many c len : Int) = 1 := by omega
      go_wp2
      go_ret2
      refine ⟨?_, unhide BEL⟩
      simp
    · have hm' : ¬ (many c len : Int) = 1 := by omega
      go_wp2
      go_ret2
      refine ⟨?_, unhide BEL⟩
      simp
end Go.Proofs.YtgjpcjnhggcfdaaDoor.One
