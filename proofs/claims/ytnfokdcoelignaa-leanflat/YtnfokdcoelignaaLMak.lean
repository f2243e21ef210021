/- Contracts: lean.sameSides. Conditions: the pixels are few. -/
import Derived.Test.YtnfokdcoelignaaLSnd
import Derived.Test.YtnfokdcoelignaaCNum
namespace Go.Proofs.Ytnfokdcoelignaa.LMak
set_option linter.unusedVariables false
open Go.ChangeShapes Go.WideShapes Go.ChangeAt Go.RowKit Go.Sort Go.Proofs.Ytnfokdcoelignaa.Core Go.Proofs.Ytnfokdcoelignaa.PNum Go.Proofs.Ytnfokdcoelignaa.PFun Go.Proofs.Ytnfokdcoelignaa.PGoo Go.Proofs.Ytnfokdcoelignaa.GGue Go.Proofs.Ytnfokdcoelignaa.GImg Go.Proofs.Ytnfokdcoelignaa.GAro Go.Proofs.Ytnfokdcoelignaa.GAtt Go.Proofs.Ytnfokdcoelignaa.GCpy Go.Proofs.Ytnfokdcoelignaa.LBlk Go.Proofs.Ytnfokdcoelignaa.LMod Go.Proofs.Ytnfokdcoelignaa.LSnd

theorem pow_row {w : World} {g n : Nat} (f : Nat → Nat) (h : Box w g 38 (CNum.row f n)) : Pow w g n f := fun i hi => ⟨(h.cell i).trans (CNum.row_at f n i hi), h.free i⟩
/-- A row of nothing but 0, of one's own. -/
structure Emp (w : World) (g n : Nat) (w' : World) : Prop where
  row : Pow w' g n (fun _ => 0)
  new : w.heap.size ≤ g
  lt : g < w'.heap.size
  bel : Below w.heap.size w w'
theorem three_boxes (w : World) (x y z : Array Value) (T U V : TypeId) : Box (((w.alloc (.cells x T)).alloc (.cells y U)).alloc (.cells z V)) (w.heap.size + 1) U y ∧ Box (((w.alloc (.cells x T)).alloc (.cells y U)).alloc (.cells z V)) (w.heap.size + 2) V z := by
  have h := Box.made (w.alloc (.cells x T)) U y
  rw [show (w.alloc (.cells x T)).heap.size = w.heap.size + 1 by simp] at h
  have k := Box.made ((w.alloc (.cells x T)).alloc (.cells y U)) V z
  rw [show ((w.alloc (.cells x T)).alloc (.cells y U)).heap.size = w.heap.size + 2 by simp] at k
  exact ⟨h.alloc _, k⟩
theorem bel_a3 (w : World) (o o' o'' : Obj) : Below w.heap.size w (((w.alloc o).alloc o').alloc o'') := (bel_a2 w o o').alloc (by simp; omega) o''
set_option maxHeartbeats 1000000 in
theorem same18 (W H : Int) (a : Option Addr) (n c : Nat) (w : World) (hn : n ≤ 1000000) :
    Calls Try.prog 18 #[.agg #[.int .i64 W, .int .i64 H, .slice a n c]] w fun e w' => e = .returned (.agg #[.int .i64 W, .int .i64 H, .slice (some ⟨w.heap.size + 2, 0, none⟩) n n]) ∧ Emp w (w.heap.size + 2) n w' := by
  have hmk := fun w => CNum.make_row w n hn
  go_enter Try.func18, Try.ntmps18
  go_wp2_with fail
  go_region
  all_goals go_wp2
  have B3 := three_boxes w #[.int .i64 W, .int .i64 H, .slice a n c] #[.int .i64 W, .int .i64 H, .slice (some ⟨w.heap.size + 1 + 1, 0, none⟩) n n] (CNum.row (fun _ => 0) n) 24 24 38
  refine bodyPost_ret (results_cell_row rfl _ _ (w.heap.size + 1) 24 #[.int .i64 W, .int .i64 H, .slice (some ⟨w.heap.size + 1 + 1, 0, none⟩) n n] (0, 0) _ rfl B3.1 Try.underlying24 rfl (by kernel_rfl)) rfl ⟨rfl, ?_⟩
  exact ⟨pow_row _ (show Box (World.drew _) _ _ _ from B3.2), by omega, Box.lt (show Box (World.drew _) _ _ _ from B3.2), bel_dr (bel_a3 w _ _ _)⟩
end Go.Proofs.Ytnfokdcoelignaa.LMak
