/- Contract: what a program that does nothing does not answer. No conditions. -/
import Derived.Test.YtgjpcjnhggcfdaaDoorHCou
namespace Go.Proofs.YtgjpcjnhggcfdaaDoor.HAns
set_option linter.unusedVariables false
open Go.ChangeShapes Go.WideShapes Go.ChangeAt Go.RowKit Go.Proofs.YtgjpcjnhggcfdaaDoor.Core Go.Proofs.YtgjpcjnhggcfdaaDoor.Add Go.Proofs.YtgjpcjnhggcfdaaDoor.Ord Go.Proofs.YtgjpcjnhggcfdaaDoor.PNum Go.Proofs.YtgjpcjnhggcfdaaDoor.HNum Go.Proofs.YtgjpcjnhggcfdaaDoor.HSiz Go.Proofs.YtgjpcjnhggcfdaaDoor.HFit Go.Proofs.YtgjpcjnhggcfdaaDoor.HFiv Go.Proofs.YtgjpcjnhggcfdaaDoor.HNew Go.Proofs.YtgjpcjnhggcfdaaDoor.HHas Go.Proofs.YtgjpcjnhggcfdaaDoor.HTel Go.Proofs.YtgjpcjnhggcfdaaDoor.HPar Go.Proofs.YtgjpcjnhggcfdaaDoor.HCnt Go.Proofs.YtgjpcjnhggcfdaaDoor.HCou

/-- The one step. -/
def t1 : Tk := ⟨1, 0, 0, 0, 16909060⟩
theorem t1_tks (w : World) : Tks (w.alloc (.cells (tkc t1) 39)).heap.size (w.alloc (.cells (tkc t1) 39)) (some ⟨w.heap.size, 0, none⟩) [t1] := fun i t ht => by
  have b := Box.made w 39 (tkc t1)
  refine ⟨_, _, rfl, b.lt, ?_⟩
  rw [b.cell, b.cell, b.cell, b.cell, b.cell]
  match i, ht with
  | 0, ht => cases ht; exact ⟨rfl, rfl, rfl, rfl, rfl⟩
theorem t1_sy (i : Nat) (hi : i < 5) (h : (plit 16909060 i).th = true) : (plit 16909060 i).sy < sz 0 i := by
  rcases lt5 hi with rfl | rfl | rfl | rfl | rfl
  · decide
  · decide
  · decide
  · decide
  · cases h
set_option maxRecDepth 20000 in
set_option maxHeartbeats 1000000 in
theorem answers4 (w : World) : Calls Tryd.prog 4 #[] w fun e w' => e = .returned (.bool true) ∧ Below w.heap.size w w' := by
  have C := hide (count13 (c := 0) (n := 1) (cp := 1) (by omega) 5 (t1_tks w) rfl (by omega) (Nat.le_refl _) (fun t => plit t.a) (fun _ => true)
    (fun t ht w' _ => by rw [List.mem_singleton.1 ht]; exact parts24_lit 0 0 0 16909060 5 _ (by omega) (by omega) w') (fun t ht _ i hi h => by rw [List.mem_singleton.1 ht] at h ⊢; exact t1_sy i hi h))
  have SI := hide (fun w => sizes14 1 (by omega) w)
  unfold fvn at SI
  simp only [tkc, t1] at C
  go_enter Tryd.func4, Tryd.ntmps4
  go_wp2_with fail
  refine (unhide C).mono ?_
  rintro e w2 ⟨hy, _, bel⟩
  obtain ⟨G, rfl, rw2⟩ := hy (by simp)
  have c0 : w2.cell? ⟨G 0, 3, none⟩ = some (.int .i64 1) := ((rw2.row 0 (by omega)).cell 3).trans (na_at _ _ 3 (by decide))
  have c1 : w2.cell? ⟨G 3, 1, none⟩ = some (.int .i64 1) := ((rw2.row 3 (by omega)).cell 1).trans (na_at _ _ 1 (by decide))
  have l0 := (rw2.row 0 (by omega)).lt
  have l3 := (rw2.row 3 (by omega)).lt
  have B2 := hide ((bel_a1 w _).trans (bel.mono (by simp)))
  have e0 : sz 0 0 = 280 := rfl
  have e3 : sz 0 3 = 256 := rfl
  clear hy bel rw2 C
  simp only [fv, gs, e0, e3]
  generalize G 0 = g0 at *
  generalize G 3 = g3 at *
  go_wp2_with fail
  refine (unhide SI _).mono ?_
  rintro e w5 ⟨rfl, b5⟩
  have B5 := hide (bel_into ((unhide B2).alloc (unhide B2).size (.cells #[.slice (some ⟨g0, 0, none⟩) 280 280, .slice (some ⟨G 1, 0, none⟩) (sz 0 1) (sz 0 1), .slice (some ⟨G 2, 0, none⟩) (sz 0 2) (sz 0 2), .slice (some ⟨g3, 0, none⟩) 256 256, .slice (some ⟨G 4, 0, none⟩) (sz 0 4) (sz 0 4)] 26)) b5)
  clear b5
  have ix : ∀ w, (Instr.index 50 (.agg #[.int .i64 (sz 1 0 : Nat), .int .i64 (sz 1 1 : Nat), .int .i64 (sz 1 2 : Nat), .int .i64 (sz 1 3 : Nat), .int .i64 (sz 1 4 : Nat)]) (.int .i64 0)).run Tryd.prog w = .ok (.int .i64 282) w := index_fvn (sz 1) 0 (by omega)
  go_wp2
  go_ret
  exact ⟨rfl, unhide B5⟩
end Go.Proofs.YtgjpcjnhggcfdaaDoor.HAns
