/- Contract: slices.reverseRangeOrdered of uint32. Conditions: the part lies in the row, which is of at most 1000000 numbers. -/
import Derived.Test.YtflmlbdcjjldgaaQLes
namespace Go.Proofs.Ytflmlbdcjjldgaa.QRev
set_option linter.unusedVariables false
open Go.ChangeShapes Go.WideShapes Go.ChangeAt Go.RowKit Go.Sort Go.Proofs.Ytflmlbdcjjldgaa.Core Go.Proofs.Ytflmlbdcjjldgaa.QNum Go.Proofs.Ytflmlbdcjjldgaa.QLes

set_option maxHeartbeats 800000 in
theorem rev53 {g o n a b : Nat} (c : Nat) {d : Array Nat} {w : World} (R : Row w g o d w) (hd : d.size = n) (hab : a < b) (hb : b ≤ n) (hn : n ≤ 1000000) :
    Calls Try.prog 53 #[.slice (some ⟨g, o, none⟩) n c, .int .i64 a, .int .i64 b] w fun e w' => e = .returned (.tuple #[]) ∧ Row w g o (reverseRange d a b) w' := by
  have R0 := hide R
  clear R
  go_enter Try.func53, Try.ntmps53
  go_wp2
  go_loopw [6, 7] (fun vi vj wr => ∃ (i j : Nat) (dk : Array Nat), vi = .int .i64 i ∧ vj = .int .i64 j ∧ i ≤ j + 1 ∧ a ≤ i ∧ j < b ∧ dk.size = n ∧ Row w g o dk wr ∧ reverseLoop i j dk = reverseLoop a (b - 1) d) (fun vi vj _ => (intOf vj + 1 - intOf vi).toNat)
  case atStart => exact ⟨a, b - 1, d, rfl, by congr 1; omega, by omega, Nat.le_refl _, by omega, hd, unhide R0, rfl⟩
  case round =>
    obtain ⟨i, j, dk, rfl, rfl, hij, hai, hjb, hsk, Rk, hO⟩ := hrel
    obtain ⟨G, hG⟩ : ∃ G : Nat → Nat, ∀ t, G t = dk[t]! := ⟨fun t => dk[t]!, fun _ => rfl⟩
    have hcw : ∀ t, t < n → wr.cell? ⟨g, o + t, none⟩ = some (.int .u32 (G t : Nat)) := fun t ht => by rw [hG]; exact Rk.cell t (by omega)
    have hfw : ∀ t, t < n → wr.frozen? ⟨g, o + t, none⟩ = false := fun t ht => Rk.free t (by omega)
    have HO := hide hO
    have RK := hide Rk
    have HG := hide hG
    clear hO Rk hG
    by_cases h1 : i < j
    · have h1' : (i : Int) < (j : Int) := by omega
      go_wp2_with fail
      go_region
      all_goals go_wp2
      go_roundw
      case rel =>
        refine ⟨i + 1, j - 1, swp dk i j, by go_num, by congr 1; omega, by omega, by omega, by omega, by rw [size_swp]; exact hsk, ?_, ?_⟩
        · have := ((unhide RK).drewN 1).swp i j (by omega) (by omega)
          rw [← unhide HG i, ← unhide HG j] at this
          exact this
        · rw [← unhide HO, reverseLoop.eq_def i j dk, if_pos h1]
      case measure => simp [intOf]; omega
    · go_wp2
      go_end0
      exact ⟨rfl, by unfold reverseRange; rw [← unhide HO, reverseLoop.eq_def i j dk, if_neg h1]; exact unhide RK⟩
end Go.Proofs.Ytflmlbdcjjldgaa.QRev
