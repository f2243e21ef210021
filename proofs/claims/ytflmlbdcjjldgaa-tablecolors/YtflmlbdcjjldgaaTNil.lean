/- Contracts: the document's Pixels and Same of two images without pixels. No conditions. -/
import Derived.Test.YtflmlbdcjjldgaaIms
namespace Go.Proofs.Ytflmlbdcjjldgaa.TNil
set_option linter.unusedVariables false
open Go.ChangeShapes Go.WideShapes Go.ChangeAt Go.RowKit Go.Sort Go.Proofs.Ytflmlbdcjjldgaa.Core Go.Proofs.Ytflmlbdcjjldgaa.PNum Go.Proofs.Ytflmlbdcjjldgaa.PGoo Go.Proofs.Ytflmlbdcjjldgaa.Ims

theorem rpix_nil (w : World) : Calls Try.prog 12 #[.slice none 0 0, .slice none 0 0] w fun e w' => e = .returned (.bool true) ∧ Below w.heap.size w w' := by
  go_enter Try.func12, Try.ntmps12
  go_wp2
  go_loopw [5] (fun i wr => i = .int .i64 0 ∧ Below w.heap.size w wr) (fun i _ => 0)
  case atStart => exact ⟨rfl, Below.refl _ _⟩
  case round =>
    obtain ⟨rfl, B⟩ := hrel
    have BB := hide B
    clear B
    go_wp2
    go_ret
    exact ⟨rfl, unhide BB⟩
theorem rsame_nil (W H : Int) (w : World) :
    Calls Try.prog 21 #[.agg #[.int .i64 W, .int .i64 H, .slice none 0 0], .agg #[.int .i64 W, .int .i64 H, .slice none 0 0]] w fun e w' => e = .returned (.bool true) ∧ Below w.heap.size w w' := by
  have BL := hide (bel_a2 w (.cells #[.int .i64 W, .int .i64 H, .slice none 0 0] 24) (.cells #[.int .i64 W, .int .i64 H, .slice none 0 0] 24))
  have Q := hide (fun w1 => rpix_nil w1)
  go_enter Try.func21, Try.ntmps21
  go_wp2_with fail
  refine (unhide Q _).mono ?_
  rintro e w1 ⟨rfl, b1⟩
  have B1 := hide (below_two (unhide BL) b1)
  clear b1
  go_wp2
  go_ret
  exact ⟨rfl, unhide B1⟩
end Go.Proofs.Ytflmlbdcjjldgaa.TNil
