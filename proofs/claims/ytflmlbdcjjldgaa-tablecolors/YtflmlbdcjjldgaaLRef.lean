/- Contracts: the document's Pixels and Same, of what is the same. Conditions: pixels are few. -/
import Derived.Test.YtflmlbdcjjldgaaIms
namespace Go.Proofs.Ytflmlbdcjjldgaa.LRef
set_option linter.unusedVariables false
open Go.ChangeShapes Go.WideShapes Go.ChangeAt Go.RowKit Go.Sort Go.Proofs.Ytflmlbdcjjldgaa.Core Go.Proofs.Ytflmlbdcjjldgaa.PNum Go.Proofs.Ytflmlbdcjjldgaa.PGoo Go.Proofs.Ytflmlbdcjjldgaa.Ims

set_option maxHeartbeats 400000 in
theorem rpix14 {b off b' off' n : Nat} {z : Nat → Nat} (c c' : Nat) {w : World} (h : Pixs w b off n z) (h' : Pixs w b' off' n z) (hn : n ≤ 1000000) :
    Calls Try.prog 12 #[.slice (some ⟨b, off, none⟩) n c, .slice (some ⟨b', off', none⟩) n c'] w fun e w' => e = .returned (.bool true) ∧ Below w.heap.size w w' := by
  have P := hide h
  have P' := hide h'
  clear h h'
  go_enter Try.func12, Try.ntmps12
  go_wp2
  go_loopw [5] (fun i wr => ∃ j : Nat, j ≤ n ∧ i = .int .i64 j ∧ Below w.heap.size w wr) (fun i _ => n - (intOf i).toNat)
  case atStart => exact ⟨0, Nat.zero_le _, rfl, Below.refl _ _⟩
  case round =>
    obtain ⟨j, hj, rfl, B⟩ := hrel
    have BB := hide B
    by_cases hlt : j < n
    · have hlt' : (j : Int) < (n : Int) := by omega
      have c1 := (unhide P).below B j hlt
      have c2 := (unhide P').below B j hlt
      clear B
      generalize z j = v at *
      go_wp2_with fail
      go_quiet (fail)
      go_wp2
      go_roundw
      case rel => exact ⟨j + 1, by omega, by go_num, below_drew (unhide BB) _⟩
      case measure => simp [intOf]; omega
    · obtain rfl : j = n := by omega
      clear B
      go_wp2
      go_ret
      exact ⟨rfl, unhide BB⟩
set_option maxHeartbeats 400000 in
theorem rsame12 {b off b' off' n : Nat} {z : Nat → Nat} (W H : Int) (c c' : Nat) {w : World} (h : Pixs w b off n z) (h' : Pixs w b' off' n z) (hn : n ≤ 1000000) :
    Calls Try.prog 21 #[.agg #[.int .i64 W, .int .i64 H, .slice (some ⟨b, off, none⟩) n c], .agg #[.int .i64 W, .int .i64 H, .slice (some ⟨b', off', none⟩) n c']] w fun e w' => e = .returned (.bool true) ∧ Below w.heap.size w w' := by
  have BL := hide (bel_a2 w (.cells #[.int .i64 W, .int .i64 H, .slice (some ⟨b, off, none⟩) n c] 24) (.cells #[.int .i64 W, .int .i64 H, .slice (some ⟨b', off', none⟩) n c'] 24))
  have Q := hide (rpix14 c c' (h.below (unhide BL)) (h'.below (unhide BL)) hn)
  clear h h'
  go_enter Try.func21, Try.ntmps21
  go_wp2_with fail
  refine (unhide Q).mono ?_
  rintro e w1 ⟨rfl, b1⟩
  have B1 := hide (below_two (unhide BL) b1)
  clear b1
  go_wp2
  go_ret
  exact ⟨rfl, unhide B1⟩
end Go.Proofs.Ytflmlbdcjjldgaa.LRef
