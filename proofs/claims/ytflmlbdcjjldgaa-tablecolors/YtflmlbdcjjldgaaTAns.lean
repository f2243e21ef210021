/- Contract: marquetrylaw16.answers. Conditions: none. -/
import Derived.Test.YtflmlbdcjjldgaaTCol
import Derived.Test.YtflmlbdcjjldgaaTUnp
namespace Go.Proofs.Ytflmlbdcjjldgaa.TAns
set_option linter.unusedVariables false
open Go.ChangeShapes Go.WideShapes Go.ChangeAt Go.RowKit Go.Maps Go.Sort Go.Proofs.Ytflmlbdcjjldgaa.Core Go.Proofs.Ytflmlbdcjjldgaa.LBlk Go.Proofs.Ytflmlbdcjjldgaa.PNum Go.Proofs.Ytflmlbdcjjldgaa.PPrt Go.Proofs.Ytflmlbdcjjldgaa.PGoo Go.Proofs.Ytflmlbdcjjldgaa.Ims Go.Proofs.Ytflmlbdcjjldgaa.TNum Go.Proofs.Ytflmlbdcjjldgaa.TLea Go.Proofs.Ytflmlbdcjjldgaa.TMap Go.Proofs.Ytflmlbdcjjldgaa.TPkn Go.Proofs.Ytflmlbdcjjldgaa.TSet Go.Proofs.Ytflmlbdcjjldgaa.TCol Go.Proofs.Ytflmlbdcjjldgaa.TPak

/-- Nine, seven, nine. -/
def zz (i : Nat) : Nat := if i = 1 then 7 else 9
def tt (j : Nat) : Nat := (ds zz 3).getD j 0
theorem ds_zz : ds zz 3 = [7, 9] := by decide
theorem pk_zz : pk tt 2 zz 3 (bv 2) 3 0 = 4278191360 := by decide
theorem bl_zz : bl 3 (bv 2) * 1 = 1 := by decide
theorem nm_zz : ∀ i, i < 3 → nm tt 2 (zz i) < 2 := by decide
theorem img_zz {w : World} {g : Nat} (h : Box w g 31 #[.int .u32 9, .int .u32 7, .int .u32 9]) : Img w 3 1 g 0 3 zz := ⟨by omega, by omega, rfl, fun i hi => by
  rw [Nat.zero_add, h.cell i]
  have : i = 0 ∨ i = 1 ∨ i = 2 := by omega
  rcases this with rfl | rfl | rfl <;> rfl⟩
theorem zz_lt : ∀ i, i < 3 → zz i < 4294967296 := by decide
theorem col_zz {w : World} {g : Nat} (h : Box w g 31 #[.int .u32 9, .int .u32 7, .int .u32 9]) :
    Calls Try.prog 9 #[.agg #[.int .i64 3, .int .i64 1, .slice (some ⟨g, 0, none⟩) 3 3]] w fun e w' => ∃ g1 cap, e = .returned (.tuple #[.slice (some ⟨g1, 0, none⟩) 2 cap, .bool true]) ∧ Pow w' g1 2 tt ∧ w.heap.size ≤ g1 ∧ Below w.heap.size w w' := by
  have K : Calls Try.prog 9 #[.agg #[.int .i64 3, .int .i64 1, .slice (some ⟨g, 0, none⟩) 3 3]] w fun e w' => ColV w 3 zz e w' := colors9 (W := 3) (H := 1) 3 (img_zz h) zz_lt (by omega) (by omega) (by omega)
  refine K.mono fun e w' hk => ?_
  unfold ColV at hk
  rw [if_pos (by rw [ds_zz]; decide), show (ds zz 3).length = 2 by rw [ds_zz]; rfl] at hk
  exact hk
theorem tt_lt : ∀ i, i < 2 → tt i < 4294967296 := by decide
theorem pak_zz {w : World} {g g1 : Nat} (cap : Nat) (h : Box w g 31 #[.int .u32 9, .int .u32 7, .int .u32 9]) (k : Pow w g1 2 tt) :
    Calls Try.prog 17 #[.agg #[.int .i64 3, .int .i64 1, .slice (some ⟨g, 0, none⟩) 3 3], .slice (some ⟨g1, 0, none⟩) 2 cap] w fun e w' =>
      ∃ g2, e = .returned (.tuple #[.agg #[.int .i64 1, .int .i64 1, .slice (some ⟨g2, 0, none⟩) 1 1], .int .i64 0]) ∧ w'.cell? ⟨g2, 0, none⟩ = some (.int .u32 4278191360) ∧ Below w.heap.size w w' := by
  have K : Calls Try.prog 17 #[.agg #[.int .i64 3, .int .i64 1, .slice (some ⟨g, 0, none⟩) 3 3], .slice (some ⟨g1, 0, none⟩) 2 cap] w fun e w' => PakV w 3 1 3 zz 2 tt e w' := pack17 (W := 3) (H := 1) 3 cap (img_zz h) zz_lt (by omega) (by omega) (by omega) k.pixs tt_lt (by omega) (by omega)
  refine K.mono fun e w' hk => ?_
  unfold PakV at hk
  rw [if_pos nm_zz, show bl 3 (bv 2) * 1 = 1 from bl_zz] at hk
  obtain ⟨g2, he, gv⟩ := hk
  refine ⟨g2, he, ?_, gv.bel⟩
  have := (gv.row 0 (by omega)).1
  rw [pk_zz] at this
  exact this
set_option maxRecDepth 20000 in
set_option maxHeartbeats 1600000 in
theorem ans8 (w : World) : Calls Try.prog 8 #[] w fun e w' => e = .returned (.bool true) ∧ Below w.heap.size w w' := by
  have TB := hide (two_boxes w #[.int .u32 9, .int .u32 7, .int .u32 9] #[.int .i64 3, .int .i64 1, .slice (some ⟨w.heap.size, 0, none⟩) 3 3] 31 24)
  have BL := hide (bel_a2 w (.cells #[.int .u32 9, .int .u32 7, .int .u32 9] 31) (.cells #[.int .i64 3, .int .i64 1, .slice (some ⟨w.heap.size, 0, none⟩) 3 3] 24))
  have K := hide (col_zz (unhide TB).1)
  go_enter Try.func8, Try.ntmps8
  go_wp2_with fail
  refine (unhide K).mono ?_
  rintro e w1 ⟨g1, cap, rfl, p1, n1, b1⟩
  have X1 := hide ((unhide TB).1.below b1 (unhide TB).1.lt)
  have Y1 := hide ((unhide TB).2.below b1 (unhide TB).2.lt)
  have B1 := hide (below_two (unhide BL) b1)
  have P1 := hide p1
  have K2 := hide (pak_zz cap (unhide X1) p1)
  obtain ⟨⟨c0, c1, c2⟩, _⟩ := box_cells (unhide Y1)
  clear p1 n1 b1 K TB BL
  go_wp2_with fail
  refine (unhide K2).mono ?_
  rintro e w2 ⟨g2, rfl, p2, b2⟩
  have P2 := hide ((unhide P1).below b2)
  have B2 := hide ((below_two (unhide B1) b2).trans (((Below.refl w2.heap.size w2).alloc (Nat.le_refl _) (.cells #[.int .i64 1, .int .i64 1, .slice (some ⟨g2, 0, none⟩) 1 1] 24)).mono (below_two (unhide B1) b2).size))
  have L2 := lt_of_cell p2
  have q0 : (w2.alloc (.cells #[.int .i64 1, .int .i64 1, .slice (some ⟨g2, 0, none⟩) 1 1] 24)).cell? ⟨g2, 0, none⟩ = some (.int .u32 4278191360) := (World.cell?_of_block (w := w2) (a := ⟨g2, 0, none⟩) (Below.heap_alloc _ _ _ L2)).trans p2
  have q1 : (w2.alloc (.cells #[.int .i64 1, .int .i64 1, .slice (some ⟨g2, 0, none⟩) 1 1] 24)).cell? ⟨g1, 0, none⟩ = some (.int .u32 7) := (World.cell?_of_block (w := w2) (a := ⟨g1, 0, none⟩) (Below.heap_alloc _ _ _ (lt_of_cell ((unhide P2) 0 (by omega)).1))).trans ((unhide P2) 0 (by omega)).1
  clear b2 p2 c0 c1 c2 L2
  go_wp2
  go_ret
  exact ⟨rfl, unhide B2⟩
end Go.Proofs.Ytflmlbdcjjldgaa.TAns
