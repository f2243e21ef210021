/- Contract: the laws' own trial call 'answers' says true, and lays one new block. No conditions. -/
import Derived.Test.YtenhoipnenmeaaaGet
namespace Go.Proofs.Ytenhoipnenmeaaa.Ans
open Go.ChangeShapes Go.WideShapes Go.ChangeAt Go.RowKit Go.Proofs.Ytenhoipnenmeaaa.Prod Go.Proofs.Ytenhoipnenmeaaa.Blk Go.Proofs.Ytenhoipnenmeaaa.Get

theorem blk52 : blkV 5 2 = 2 := by decide
def c34 : Nat → Int := fun k => if k = 0 then 52 else if k = 1 then 18 else 0
theorem le34 : leN c34 0 2 = 4660 := by simp [leN, c34]

theorem get9_two (B : Nat) (w : World) (h0 : w.cell? ⟨B, 0, none⟩ = some (.int .u8 52)) (h1 : w.cell? ⟨B, 1, none⟩ = some (.int .u8 18)) :
    Calls Try.prog 9 #[.slice (some ⟨B, 0, none⟩) 2 2, .int .i64 0, .int .i64 2] w fun e w' => e = .returned (.tuple #[.int .u64 4660, .bool true]) ∧ w' = w := by
  have h := get9_yes B 0 2 2 c34 0 2 w (by decide) (fun k hk => by
    rcases k with _ | _ | k
    · simpa [c34] using h0
    · simpa [c34] using h1
    · omega) (fun k => by unfold c34; split <;> (try split) <;> omega) (by omega) (by omega) (by omega)
  rw [le34] at h
  exact h
theorem blk16_52 (w : World) : Calls Try.prog 16 #[.int .i64 5, .int .i64 2] w fun e w' => e = .returned (.int .i64 2) ∧ w' = w := by
  have h := blk16 5 2 w
  rw [blk52] at h
  exact h

set_option maxHeartbeats 400000 in
theorem ans8 (w : World) :
    Calls Try.prog 8 #[] w fun e w' => e = .returned (.bool true) ∧ w' = w.alloc (.cells #[.int .u8 52, .int .u8 18] 5) := by
  go_enter Try.func8, Try.ntmps8
  go_wp2_with fail
  refine (get9_two _ _ (by simp) (by simp)).mono ?_
  rintro e w1 ⟨rfl, rfl⟩
  go_wp2_with (go_at_call 16; refine (blk16_52 _).mono ?_; rintro e w1 ⟨rfl, rfl⟩)
  go_ret
  exact ⟨rfl, rfl⟩
end Go.Proofs.Ytenhoipnenmeaaa.Ans
