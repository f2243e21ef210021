/- Contracts: what a program that does nothing does not answer. No conditions. -/
import Derived.Test.YthnoamcgdidfmaaKFor
namespace Go.Proofs.Ythnoamcgdidfmaa.KAns
set_option linter.unusedVariables false
open Go.ChangeShapes Go.WideShapes Go.ChangeAt Go.RowKit Go.Sort Go.Proofs.Ythnoamcgdidfmaa.Core Go.Proofs.Ythnoamcgdidfmaa.PNum Go.Proofs.Ythnoamcgdidfmaa.PPrt Go.Proofs.Ythnoamcgdidfmaa.PGoo Go.Proofs.Ythnoamcgdidfmaa.XNum Go.Proofs.Ythnoamcgdidfmaa.Ims Go.Proofs.Ythnoamcgdidfmaa.KNum Go.Proofs.Ythnoamcgdidfmaa.KFor

theorem one_img (w : World) : Img (w.alloc (.cells #[.int .u32 1052688] 33)) 1 1 w.heap.size 0 1 (fun _ => 1052688) :=
  ⟨by omega, by omega, rfl, fun i hi => by
    obtain rfl : i = 0 := by omega
    exact ((Box.made w 33 #[.int .u32 1052688]).cell 0).trans rfl⟩
set_option maxHeartbeats 400000 in
theorem ans6 (w : World) : Calls Try.prog 6 #[] w fun e w' => e = .returned (.bool true) ∧ Below w.heap.size w w' := by
  have Q := hide (forth7 (W := 1) (H := 1) 1 (one_img w) (by omega) (by omega) (by omega))
  have BL := hide (bel_a1 w (.cells #[.int .u32 1052688] 33))
  have EV : lgV 1052688 = 4096 := by decide
  have HE := hide EV
  clear EV
  go_enter Try.func6, Try.ntmps6
  go_wp2_with fail
  refine (unhide Q).mono ?_
  rintro e w2 ⟨g, rfl, G⟩
  have B2 := hide (bel_into (bel_into (unhide BL) G.bel) (bel_a1 w2 (.cells #[.int .i64 1, .int .i64 1, .slice (some ⟨g, 0, none⟩) 1 1] 24)))
  have p0 : (w2.alloc (.cells #[.int .i64 1, .int .i64 1, .slice (some ⟨g, 0, none⟩) 1 1] 24)).cell? ⟨g, 0, none⟩ = some (.int .u32 4096) := by
    have h := (G.row.below (bel_a1 w2 (.cells #[.int .i64 1, .int .i64 1, .slice (some ⟨g, 0, none⟩) 1 1] 24)) 0 (by omega)).1
    rw [unhide HE] at h
    exact h
  have hg := lt_of_cell p0
  obtain ⟨⟨c0, c1, c2⟩, _⟩ := box_cells (Box.made w2 24 #[.int .i64 1, .int .i64 1, .slice (some ⟨g, 0, none⟩) 1 1])
  have hx := (Box.made w2 24 #[.int .i64 1, .int .i64 1, .slice (some ⟨g, 0, none⟩) 1 1]).lt
  clear G
  go_upto_region 2 with fail
  generalize w2.heap.size = gx at *
  generalize w2.alloc (.cells #[.int .i64 1, .int .i64 1, .slice (some ⟨g, 0, none⟩) 1 1] 24) = w3 at *
  go_wp2
  go_ret
  exact ⟨rfl, unhide B2⟩
end Go.Proofs.Ythnoamcgdidfmaa.KAns
