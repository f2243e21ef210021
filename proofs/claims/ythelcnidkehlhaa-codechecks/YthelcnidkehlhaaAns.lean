/- Contract: what a program that does nothing does not answer. No conditions. -/
import Derived.Test.YthelcnidkehlhaaRef
namespace Go.Proofs.Ythelcnidkehlhaa.Ans
open Go.ChangeShapes Go.WideShapes Go.ChangeAt Go.RowKit Go.Proofs.Ythelcnidkehlhaa.Gnd Go.Proofs.Ythelcnidkehlhaa.Math Go.Proofs.Ythelcnidkehlhaa.Each Go.Proofs.Ythelcnidkehlhaa.One Go.Proofs.Ythelcnidkehlhaa.Chk Go.Proofs.Ythelcnidkehlhaa.Fst Go.Proofs.Ythelcnidkehlhaa.Cod Go.Proofs.Ythelcnidkehlhaa.Ref

def c3 (k : Nat) : Int := if k = 1 then 1 else 2
theorem c3_chk : chk c3 3 = 0 := by decide
theorem c3_src (w : World) : Ints .i64 (w.alloc (.cells #[.int .i64 2, .int .i64 1, .int .i64 2] 3)) (.slice (some ⟨w.heap.size, 0, none⟩) 3 3) 3 c3 := by
  refine ⟨_, _, rfl, fun i hi => ⟨_, _, rfl, ?_⟩⟩
  have h := Box.made w 3 #[.int .i64 2, .int .i64 1, .int .i64 2]
  rw [h.cell]
  rcases (show i = 0 ∨ i = 1 ∨ i = 2 by omega) with rfl | rfl | rfl <;> rfl
theorem answers7 (w : World) : Calls Try.prog 7 #[] w fun e w' => e = .returned (.bool true) ∧ Below w.heap.size w w' := by
  have S0 := hide (c3_src w)
  go_enter Try.func7, Try.ntmps7
  go_wp2_with fail
  refine (codes10 _ 3 c3 (by omega) c3_chk _ (unhide S0)).mono ?_
  rintro e w1 ⟨v1, rfl, ints, bel⟩
  have B1 := hide (show Below w.heap.size w w1 from ((Below.refl _ w).alloc (Nat.le_refl _) _).trans (bel.mono (by simp)))
  have I1 := hide ints
  obtain ⟨a, cap, rfl, _⟩ := ints
  have S1 := hide (c3_src w1)
  clear bel S0
  go_wp2_with fail
  refine (check11 _ 3 c3 (by omega) _ (unhide S1)).mono ?_
  rw [c3_chk]
  rintro e w2 ⟨rfl, bel2⟩
  have b2 : Below w1.heap.size w1 w2 := ((Below.refl _ w1).alloc (Nat.le_refl _) _).trans (bel2.mono (by simp))
  have B2 := hide ((unhide B1).trans (b2.mono (unhide B1).size))
  obtain ⟨a1, cap1, e1, hc⟩ := (unhide I1).keep b2
  cases e1
  obtain ⟨b, off, rfl, h0⟩ := hc 0 (by omega)
  obtain ⟨b', off', e1, h1⟩ := hc 1 (by omega)
  cases e1
  obtain ⟨b', off', e1, h2⟩ := hc 2 (by omega)
  cases e1
  have e0 : cod c3 3 0 = 2 := by decide
  have e1 : cod c3 3 1 = 0 := by decide
  have e2 : cod c3 3 2 = 3 := by decide
  have h3 : w2.cell? ⟨b, off, none⟩ = some (.int .u32 2) := by simpa [e0] using h0
  have h4 : w2.cell? ⟨b, off + 1, none⟩ = some (.int .u32 0) := by simpa [e1] using h1
  have h5 : w2.cell? ⟨b, off + 2, none⟩ = some (.int .u32 3) := by simpa [e2] using h2
  clear e0 e1 e2 hc h0 h1 h2 bel2 b2 I1 S1 B1
  go_wp2
  go_ret
  exact ⟨rfl, unhide B2⟩
end Go.Proofs.Ythelcnidkehlhaa.Ans
