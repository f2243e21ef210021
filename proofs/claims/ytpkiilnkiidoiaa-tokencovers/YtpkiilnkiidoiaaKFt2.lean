/- Contracts: token.fits. Conditions: at most a million pixels; the span's place is not below 0. -/
import Derived.Test.YtpkiilnkiidoiaaKFit
namespace Go.Proofs.Ytpkiilnkiidoiaa.KFt2
set_option linter.unusedVariables false
open Go.ChangeShapes Go.WideShapes Go.ChangeAt Go.RowKit Go.Sort Go.Proofs.Ytpkiilnkiidoiaa.Core Go.Proofs.Ytpkiilnkiidoiaa.CNum Go.Proofs.Ytpkiilnkiidoiaa.KNum Go.Proofs.Ytpkiilnkiidoiaa.KMem Go.Proofs.Ytpkiilnkiidoiaa.KFit

set_option maxHeartbeats 1000000 in
theorem fits24_no {w : World} (a : Option Addr) {n : Nat} (c : Nat) (p m d : Int) (hp : 0 ≤ p) (hn : n ≤ 1000000) (h : okV n ⟨p, m, d⟩ = false) :
    Calls Try.prog 24 #[.slice a n c, .agg #[.int .i64 p, .int .i64 m, .int .i64 d]] w fun e w' => e = .returned (.bool false) ∧ Below w.heap.size w w' := by
  have h' : ¬ (0 ≤ p ∧ 1 ≤ m ∧ m ≤ 4096 ∧ 1 ≤ d ∧ d ≤ p ∧ d ≤ 1048456 ∧ p + m ≤ (n : Int)) := of_decide_eq_false h
  clear h
  have h2 : m < 1 ∨ (1 ≤ m ∧ 4096 < m) ∨ (1 ≤ m ∧ m ≤ 4096 ∧ d < 1) ∨ (1 ≤ m ∧ m ≤ 4096 ∧ 1 ≤ d ∧ p < 1048456 ∧ p < d) ∨ (1 ≤ m ∧ m ≤ 4096 ∧ 1 ≤ d ∧ 1048456 ≤ p ∧ 1048456 < d) ∨ (1 ≤ m ∧ m ≤ 4096 ∧ 1 ≤ d ∧ p < 1048456 ∧ d ≤ p ∧ (n : Int) - m < p) ∨ (1 ≤ m ∧ m ≤ 4096 ∧ 1 ≤ d ∧ 1048456 ≤ p ∧ d ≤ 1048456 ∧ (n : Int) - m < p) := by omega
  clear h'
  have hn' : (n : Int) ≤ 1000000 := by omega
  rcases h2 with h | ⟨h1, h2⟩ | ⟨h1, h2, h3⟩ | ⟨h1, h2, h3, h4, h5⟩ | ⟨h1, h2, h3, h4, h5⟩ | ⟨h1, h2, h3, h4, h5, h6⟩ | ⟨h1, h2, h3, h4, h5, h6⟩
  all_goals go_enter Try.func24, Try.ntmps24
  all_goals go_wp2
  all_goals go_ret
  all_goals exact ⟨rfl, bel_a1 _ _⟩
end Go.Proofs.Ytpkiilnkiidoiaa.KFt2
