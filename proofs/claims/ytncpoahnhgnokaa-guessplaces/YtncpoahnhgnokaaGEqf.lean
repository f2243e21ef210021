/- Plain fact: an array of four numbers is itself. No conditions. -/
import Derived.Test.YtncpoahnhgnokaaGRat
import Derived.Laws.StructEq
namespace Go.Proofs.Ytncpoahnhgnokaa.GEqf
open Go.ChangeShapes Go.WideShapes Go.ChangeAt Go.RowKit Go.Proofs.Ytncpoahnhgnokaa.Core Go.Proofs.Ytncpoahnhgnokaa.GAro

theorem eq_gen (n : Nat) (a b c d : Int) (w : World) : (Op.equalIn (n + 1 + 1) 33 (.agg #[.int .u32 a, .int .u32 b, .int .u32 c, .int .u32 d]) (.agg #[.int .u32 a, .int .u32 b, .int .u32 c, .int .u32 d])).run Try.prog w = .ok true w := by
  have e : ∀ (x : Int) (w : World), (Op.equalIn (n + 1) 22 (.int .u32 x) (.int .u32 x)).run Try.prog w = .ok true w := fun x w => by
    rw [run_equalIn_int (h := Try.underlying22)]; simp
  rw [Op.equalIn]
  simp only [Sem.run_bind, run_underlying Try.underlying33, Result.andThen_ok]
  generalize Op.equalIn (n + 1) = E at *
  simp [go_sem, Std.Legacy.Range.forIn_eq_forIn_range', List.range', e]
theorem eq_four (a b c d : Int) (w : World) : (Op.equalIn 10000 33 (.agg #[.int .u32 a, .int .u32 b, .int .u32 c, .int .u32 d]) (.agg #[.int .u32 a, .int .u32 b, .int .u32 c, .int .u32 d])).run Try.prog w = .ok true w := eq_gen 9998 a b c d w
end Go.Proofs.Ytncpoahnhgnokaa.GEqf
