/- Contracts: what the statements ask of every program. No conditions. -/
import Derived.Test.YtnfokdcoelignaaLFor
namespace Go.Proofs.Ytnfokdcoelignaa.LAns
set_option linter.unusedVariables false
open Go.ChangeShapes Go.WideShapes Go.ChangeAt Go.RowKit Go.Sort Go.Proofs.Ytnfokdcoelignaa.Core Go.Proofs.Ytnfokdcoelignaa.PNum Go.Proofs.Ytnfokdcoelignaa.PFun Go.Proofs.Ytnfokdcoelignaa.PGoo Go.Proofs.Ytnfokdcoelignaa.GGue Go.Proofs.Ytnfokdcoelignaa.GImg Go.Proofs.Ytnfokdcoelignaa.GAro Go.Proofs.Ytnfokdcoelignaa.GAtt Go.Proofs.Ytnfokdcoelignaa.GCpy Go.Proofs.Ytnfokdcoelignaa.LBlk Go.Proofs.Ytnfokdcoelignaa.LMod Go.Proofs.Ytnfokdcoelignaa.LSnd Go.Proofs.Ytnfokdcoelignaa.LEch Go.Proofs.Ytnfokdcoelignaa.LClo Go.Proofs.Ytnfokdcoelignaa.LMak Go.Proofs.Ytnfokdcoelignaa.LNum Go.Proofs.Ytnfokdcoelignaa.LFor

theorem so_ans : soV (1 : Int) (1 : Int) 1 (2 : Int) 1 (fun _ => 0) = true :=
  so_yes (W := 1) (H := 1) (n := 1) (k := 2) (m := 1) (gd_mk (by omega) (by omega) (by omega) (by omega) rfl) (by omega) (by omega) (by decide) (mdB_yes fun _ _ => by omega)
theorem fo_ans : foV 1 2 (fun _ => 0) (fun _ => 4278190085) 0 = 5 := by
  rw [foV, gu, at_00 _ _ _ (by decide) (by decide)]
  decide
theorem one_mds {w : World} {b : Nat} {md : Int} (h : w.cell? ⟨b, 0, none⟩ = some (.int .i64 md)) : Mds w (some ⟨b, 0, none⟩) 1 (fun _ => md) := fun i hi => ⟨b, 0, rfl, (by have e : i = 0 := (by omega); subst e; exact h)⟩
theorem one_pix {w : World} {b z : Nat} (h : w.cell? ⟨b, 0, none⟩ = some (.int .u32 z)) : Pixs w b 0 1 (fun _ => z) := fun i hi => by
  obtain rfl : i = 0 := by omega
  exact h
theorem ans8 {b mb : Nat} {w : World} (h : w.cell? ⟨b, 0, none⟩ = some (.int .u32 4278190085)) (h' : w.cell? ⟨mb, 0, none⟩ = some (.int .i64 0)) :
    Calls Try.prog 8 #[.agg #[.int .i64 1, .int .i64 1, .slice (some ⟨b, 0, none⟩) 1 1], .int .i64 2, .slice (some ⟨mb, 0, none⟩) 1 1] w fun e w' =>
      ∃ g, e = .returned (.tuple #[.agg #[.int .i64 1, .int .i64 1, .slice (some ⟨g, 0, none⟩) 1 1], .int .i64 0]) ∧ Gives w 1 g (fun _ => 5) w' :=
  (forth8 (W := 1) (H := 1) (k := 2) (n := 1) (m := 1) (z := fun _ => 4278190085) (md := fun _ => 0) 1 1 ⟨by omega, by omega, rfl, one_pix h⟩ (one_mds h') (by omega) (by omega) so_ans).mono fun e w' ⟨g, he, G⟩ =>
    ⟨g, he, ⟨G.row.congr fun i hi => (by have e : i = 0 := (by omega); subst e; exact fo_ans), G.new, G.bel⟩⟩
theorem ans11 {b mb : Nat} {w : World} (h' : w.cell? ⟨mb, 0, none⟩ = some (.int .i64 0)) :
    Calls Try.prog 11 #[.agg #[.int .i64 1, .int .i64 1, .slice (some ⟨b, 0, none⟩) 1 1], .int .i64 2, .slice (some ⟨mb, 0, none⟩) 1 1] w fun e w' => e = .returned (.bool true) ∧ Below w.heap.size w w' := by
  have h := sound11 1 1 2 (some ⟨b, 0, none⟩) (some ⟨mb, 0, none⟩) 1 1 1 1 (fun _ => 0) w (by omega) (one_mds h')
  rw [so_ans] at h
  exact h
theorem bel_a3' (w : World) (o o' o'' : Obj) : Below w.heap.size w (((w.alloc o).alloc o').alloc o'') := bel_a3 w o o' o''
set_option maxHeartbeats 1000000 in
theorem ans7 (w : World) : Calls Try.prog 7 #[] w fun e w' => e = .returned (.bool true) ∧ Below w.heap.size w w' := by
  have BL := hide (bel_a3 w (.cells #[.int .u32 4278190085] 38) (.cells #[.int .i64 1, .int .i64 1, .slice (some ⟨w.heap.size, 0, none⟩) 1 1] 24) (.cells #[.int .i64 0] 3))
  have B3 := hide (three_boxes w #[.int .u32 4278190085] #[.int .i64 1, .int .i64 1, .slice (some ⟨w.heap.size, 0, none⟩) 1 1] #[.int .i64 0] 38 24 3)
  have B0 := hide (((Box.made w 38 #[.int .u32 4278190085]).alloc (.cells #[.int .i64 1, .int .i64 1, .slice (some ⟨w.heap.size, 0, none⟩) 1 1] 24)).alloc (.cells #[.int .i64 0] 3))
  go_enter Try.func7, Try.ntmps7
  go_wp2_with fail
  refine (ans8 ((unhide B0).cell 0) ((unhide B3).2.cell 0)).mono ?_
  rintro e w2 ⟨g, rfl, G⟩
  have B2 := hide (bel_into (unhide BL) G.bel)
  have X2 := hide ((unhide B3).1.below G.bel (unhide B3).1.lt)
  obtain ⟨⟨m0, m1, m2⟩, _⟩ := box_cells (unhide X2)
  have hm := (unhide X2).lt
  have hp := (G.row 0 (by omega)).1
  have hg := lt_of_cell hp
  clear G BL B3 B0
  have B4 := hide (bel_a2 w2 (.cells #[.int .i64 1, .int .i64 1, .slice (some ⟨g, 0, none⟩) 1 1] 24) (.cells #[.int .i64 0] 3))
  have B5 := hide (two_boxes w2 #[.int .i64 1, .int .i64 1, .slice (some ⟨g, 0, none⟩) 1 1] #[.int .i64 0] 24 3).2
  go_wp2_with fail
  refine (ans11 ((unhide B5).cell 0)).mono ?_
  rintro e w3 ⟨rfl, b3⟩
  have B6 := hide (bel_into (bel_into (unhide B2) (unhide B4)) b3)
  clear b3
  go_wp2
  go_ret
  exact ⟨rfl, unhide B6⟩
end Go.Proofs.Ytnfokdcoelignaa.LAns
