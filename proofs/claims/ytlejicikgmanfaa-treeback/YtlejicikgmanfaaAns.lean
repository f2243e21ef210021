/- Contract: what a program that does nothing does not answer. No conditions. -/
import Derived.Test.YtlejicikgmanfaaTrr
namespace Go.Proofs.Ytlejicikgmanfaa.Ans
open Go.ChangeShapes Go.WideShapes Go.ChangeAt Go.RowKit Go.Proofs.Ytlejicikgmanfaa.Core Go.Proofs.Ytlejicikgmanfaa.Gnd Go.Proofs.Ytlejicikgmanfaa.Math Go.Proofs.Ytlejicikgmanfaa.Dec Go.Proofs.Ytlejicikgmanfaa.Tre Go.Proofs.Ytlejicikgmanfaa.Trr Go.Proofs.Ytlejicikgmanfaa.Bitin Go.Proofs.Ytlejicikgmanfaa.Eyes

def c3 (k : Nat) : Int := if k = 1 then 1 else 2
def b1 (_ : Nat) : Nat := 3
theorem ints3 (w : World) : Ints .i64 (w.alloc (.cells #[.int .i64 2, .int .i64 1, .int .i64 2] 3)) (.slice (some ⟨w.heap.size, 0, none⟩) 3 3) 3 c3 := by
  refine ⟨_, _, rfl, fun i hi => ⟨w.heap.size, 0, rfl, ?_⟩⟩
  have hb := Box.made w 3 #[.int .i64 2, .int .i64 1, .int .i64 2]
  rw [hb.cell, Nat.zero_add]
  match i, hi with
  | 0, _ => rfl
  | 1, _ => rfl
  | 2, _ => rfl
theorem src1 (w : World) : Src (w.alloc (.cells #[.int .u8 3] 5)) (.slice (some ⟨w.heap.size, 0, none⟩) 1 1) 1 b1 := by
  refine .inr ⟨_, _, rfl, fun k hk => ?_⟩
  have hb := Box.made w 5 #[.int .u8 3]
  match k, hk with
  | 0, _ => exact hb.cell 0
theorem chk3 : chk c3 3 = 0 := by decide
theorem next3 : Nx c3 3 (fun j => bt b1 (0 + j)) 2 2 :=
  next_code chk3 (fun j => bt_le b1 _) (by decide) (by decide) (by decide) (fun _ => by decide)
theorem rng3 : Rng c3 3 := (chk_zero chk3).1
set_option maxHeartbeats 400000 in
theorem ans7 (w : World) : Calls Try.prog 7 #[] w fun e w' => e = .returned (.bool true) ∧ Below w.heap.size w w' := by
  go_enter Try.func7, Try.ntmps7
  go_wp2_with fail
  refine (tnew _ 3 c3 (by omega) chk3 _ (ints3 w)).mono ?_
  rintro e w1 ⟨g, rfl, tr1, bel1⟩
  have TR1 := hide tr1
  have B1 := hide (show Below w.heap.size w w1 from ((Below.refl _ w).alloc (Nat.le_refl _) _).trans (bel1.mono (by simp)))
  clear tr1 bel1
  go_wp2_with fail
  refine (new8 _ 1 b1 _ (src1 w1) (by omega)).mono ?_
  rintro e w2 ⟨r, rfl, on2, bel2⟩
  have hrl := on2.at.1
  have AT2 := hide on2.at
  have s2 := bel2.size
  have bb : Below w1.heap.size w1 w2 := ((Below.refl _ w1).alloc (Nat.le_refl _) _).trans (bel2.mono (by simp))
  have TR2 := hide ((unhide TR1).below bb)
  have B2 := hide (show Below w.heap.size w w2 from (unhide B1).trans (bb.mono (unhide B1).size))
  have hrl' : w1.heap.size ≤ r := by simp at hrl; omega
  clear on2 bel2 bb hrl
  go_wp2_with fail
  refine (read13 _ _ g 3 c3 _ _ r 1 0 2 2 b1 (fun _ => by unfold b1; decide) (by omega) w2 (unhide TR2) (unhide AT2) (.inr hrl') (by omega) next3).mono ?_
  rintro e w3 ⟨rfl, at3, u3⟩
  have e1 : outV 1 0 2 2 = 2 := by decide
  have e2 : outE 1 0 2 = 0 := by decide
  rw [e1, e2]
  have TR3 := hide ((unhide TR2).keep u3 (fun k _ h2 h3 => by omega))
  have B3 := hide (show Below w.heap.size w w3 from (unhide B2).trans (u3.below _ (unhide B2).size (fun k hk => by have := (unhide B1).size; omega)))
  clear at3 u3 e1 e2
  go_wp2_with fail
  refine (cost18 _ _ g 3 c3 rng3 0 w3 (unhide TR3)).mono ?_
  rintro e w4 ⟨rfl, rfl⟩
  have e1 : costI c3 3 0 = 2 := by decide
  have e2 : hasB c3 3 0 = true := by decide
  rw [e1, e2]
  clear e1 e2
  go_wp2
  go_ret
  exact ⟨rfl, unhide B3⟩
end Go.Proofs.Ytlejicikgmanfaa.Ans
