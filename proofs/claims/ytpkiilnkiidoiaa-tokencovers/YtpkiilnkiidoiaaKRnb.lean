/- Contracts: the document's Step where a step is none, part KRnb. Conditions: at most nine hundred thousand pixels. -/
import Derived.Test.YtpkiilnkiidoiaaKRst
namespace Go.Proofs.Ytpkiilnkiidoiaa.KRnb
set_option linter.unusedVariables false
open Go.ChangeShapes Go.WideShapes Go.ChangeAt Go.RowKit Go.Sort Go.Proofs.Ytpkiilnkiidoiaa.Core Go.Proofs.Ytpkiilnkiidoiaa.CNum Go.Proofs.Ytpkiilnkiidoiaa.KNum Go.Proofs.Ytpkiilnkiidoiaa.KMem Go.Proofs.Ytpkiilnkiidoiaa.KCch Go.Proofs.Ytpkiilnkiidoiaa.KAdd Go.Proofs.Ytpkiilnkiidoiaa.KRad Go.Proofs.Ytpkiilnkiidoiaa.KRst

set_option maxHeartbeats 4000000 in
theorem no3 {g m r L cv P : Nat} {w : World} {av ac : Option Addr} {n d i a : Int} (c0 : w.cell? ⟨g, 0, none⟩ = some (.slice av L cv)) (c1 : w.cell? ⟨g, 1, none⟩ = some (.slice ac P P)) (gl : g < w.heap.size) (i5 : IntKind.i64.wrap ((m : Int) - (L : Int)) = (r : Int)) (g1 : 1 ≤ n) (g2 : n ≤ 4096) (g3 : d < 1) :
    Calls Try.prog 21 #[.pointer (some ⟨g, 0, none⟩), .agg #[.int .i64 2, .int .i64 n, .int .i64 d, .int .i64 i, .int .u32 a], .int .i64 m] w fun e w' => e = .returned (.bool false) ∧ Below w.heap.size w w' := by
  have t1 : decide (1 ≤ d) = false := decide_eq_false (by omega)
  clear g3
  go_enter Try.func21, Try.ntmps21
  go_wp2
  go_quiet (fail)
  go_wp2
  go_quiet (fail)
  go_wp2
  go_ret
  exact ⟨rfl, bel_drN (bel_drN (bel_a1 _ _) _) _⟩
set_option maxHeartbeats 4000000 in
theorem no4 {g m r L cv P : Nat} {w : World} {av ac : Option Addr} {n d i a : Int} (c0 : w.cell? ⟨g, 0, none⟩ = some (.slice av L cv)) (c1 : w.cell? ⟨g, 1, none⟩ = some (.slice ac P P)) (gl : g < w.heap.size) (i5 : IntKind.i64.wrap ((m : Int) - (L : Int)) = (r : Int)) (g1 : 1 ≤ n) (g2 : n ≤ 4096) (g3 : 1 ≤ d) (g4 : (L : Int) < d) :
    Calls Try.prog 21 #[.pointer (some ⟨g, 0, none⟩), .agg #[.int .i64 2, .int .i64 n, .int .i64 d, .int .i64 i, .int .u32 a], .int .i64 m] w fun e w' => e = .returned (.bool false) ∧ Below w.heap.size w w' := by
  have t1 : decide (d ≤ (L : Int)) = false := decide_eq_false (by omega)
  clear g4
  go_enter Try.func21, Try.ntmps21
  go_wp2
  go_quiet (fail)
  go_wp2
  go_quiet (fail)
  go_wp2
  go_ret
  exact ⟨rfl, bel_drN (bel_drN (bel_a1 _ _) _) _⟩
set_option maxHeartbeats 4000000 in
theorem no5 {g m r L cv P : Nat} {w : World} {av ac : Option Addr} {n d i a : Int} (c0 : w.cell? ⟨g, 0, none⟩ = some (.slice av L cv)) (c1 : w.cell? ⟨g, 1, none⟩ = some (.slice ac P P)) (gl : g < w.heap.size) (i5 : IntKind.i64.wrap ((m : Int) - (L : Int)) = (r : Int)) (g1 : 1 ≤ n) (g2 : n ≤ 4096) (g3 : 1 ≤ d) (g4 : d ≤ (L : Int)) (g5 : (r : Int) < n) :
    Calls Try.prog 21 #[.pointer (some ⟨g, 0, none⟩), .agg #[.int .i64 2, .int .i64 n, .int .i64 d, .int .i64 i, .int .u32 a], .int .i64 m] w fun e w' => e = .returned (.bool false) ∧ Below w.heap.size w w' := by
  have t1 : decide (n ≤ (r : Int)) = false := decide_eq_false (by omega)
  clear g5
  go_enter Try.func21, Try.ntmps21
  go_wp2
  go_quiet (fail)
  go_wp2
  go_quiet (fail)
  go_wp2
  go_ret
  exact ⟨rfl, bel_drN (bel_drN (bel_a1 _ _) _) _⟩
end Go.Proofs.Ytpkiilnkiidoiaa.KRnb
