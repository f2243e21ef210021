/- Contracts: green.sameSides. Conditions: the pixels are few. -/
import Derived.Test.YthnoamcgdidfmaaIms
namespace Go.Proofs.Ythnoamcgdidfmaa.KMak
set_option linter.unusedVariables false
open Go.ChangeShapes Go.WideShapes Go.ChangeAt Go.RowKit Go.Sort Go.Proofs.Ythnoamcgdidfmaa.Core Go.Proofs.Ythnoamcgdidfmaa.PNum Go.Proofs.Ythnoamcgdidfmaa.PGoo Go.Proofs.Ythnoamcgdidfmaa.Ims

/-- A row of nothing but 0, of one's own. -/
structure Emp (w : World) (g n : Nat) (w' : World) : Prop where
  row : Pow w' g n (fun _ => 0)
  new : w.heap.size ≤ g
  lt : g < w'.heap.size
  bel : Below w.heap.size w w'
set_option maxHeartbeats 1000000 in
theorem same18 (W H : Int) (a : Option Addr) (n c : Nat) (w : World) (hn : n ≤ 1000000) :
    Calls Try.prog 13 #[.agg #[.int .i64 W, .int .i64 H, .slice a n c]] w fun e w' => e = .returned (.agg #[.int .i64 W, .int .i64 H, .slice (some ⟨w.heap.size + 2, 0, none⟩) n n]) ∧ Emp w (w.heap.size + 2) n w' := by
  have hmk := fun w => CNum.make_row w n hn
  go_enter Try.func13, Try.ntmps13
  go_wp2_with fail
  go_region
  all_goals go_wp2
  have B3 := three_boxes w #[.int .i64 W, .int .i64 H, .slice a n c] #[.int .i64 W, .int .i64 H, .slice (some ⟨w.heap.size + 1 + 1, 0, none⟩) n n] (CNum.row (fun _ => 0) n) 24 24 33
  refine bodyPost_ret (results_cell_row rfl _ _ (w.heap.size + 1) 24 #[.int .i64 W, .int .i64 H, .slice (some ⟨w.heap.size + 1 + 1, 0, none⟩) n n] (0, 0) _ rfl B3.1 Try.underlying24 rfl (by kernel_rfl)) rfl ⟨rfl, ?_⟩
  exact ⟨pow_row _ (show Box (World.drew _) _ _ _ from B3.2), by omega, Box.lt (show Box (World.drew _) _ _ _ from B3.2), bel_dr (bel_a3 w _ _ _)⟩
end Go.Proofs.Ythnoamcgdidfmaa.KMak
