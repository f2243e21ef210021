/- Contract: cmp.Less of two uint32. Conditions: none. -/
import Derived.Test.YtflmlbdcjjldgaaQNum
namespace Go.Proofs.Ytflmlbdcjjldgaa.QLes
set_option linter.unusedVariables false
open Go.ChangeShapes Go.WideShapes Go.ChangeAt Go.RowKit Go.Sort Go.Proofs.Ytflmlbdcjjldgaa.Core Go.Proofs.Ytflmlbdcjjldgaa.QNum

theorem nan65 (x : Nat) (w : World) : Calls Try.prog 65 #[.int .u32 x] w fun e w' => e = .returned (.bool false) ∧ w' = w := by
  go_enter Try.func65, Try.ntmps65
  go_wp2
  go_ret
  exact ⟨ret_bool (by simp), rfl⟩
theorem less55 (x y : Nat) (w : World) : Calls Try.prog 55 #[.int .u32 x, .int .u32 y] w fun e w' => e = .returned (.bool (cl x y)) ∧ w' = w := by
  go_enter Try.func55, Try.ntmps55
  go_wp2_with (go_at_call 65; refine (nan65 _ _).mono ?_; rintro e w' ⟨rfl, rfl⟩)
  go_ret
  exact ⟨rfl, rfl⟩
end Go.Proofs.Ytflmlbdcjjldgaa.QLes
