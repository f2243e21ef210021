/- Contracts: the document's Step where a step is none, part KRna. Conditions: at most nine hundred thousand pixels. -/
import Derived.Test.YtpkiilnkiidoiaaKRst
namespace Go.Proofs.Ytpkiilnkiidoiaa.KRna
set_option linter.unusedVariables false
open Go.ChangeShapes Go.WideShapes Go.ChangeAt Go.RowKit Go.Sort Go.Proofs.Ytpkiilnkiidoiaa.Core Go.Proofs.Ytpkiilnkiidoiaa.CNum Go.Proofs.Ytpkiilnkiidoiaa.KNum Go.Proofs.Ytpkiilnkiidoiaa.KMem Go.Proofs.Ytpkiilnkiidoiaa.KCch Go.Proofs.Ytpkiilnkiidoiaa.KAdd Go.Proofs.Ytpkiilnkiidoiaa.KRad Go.Proofs.Ytpkiilnkiidoiaa.KRst

set_option maxHeartbeats 4000000 in
theorem no0 {g m r L cv P : Nat} {w : World} {av ac : Option Addr} {n d i a : Int} (c0 : w.cell? ⟨g, 0, none⟩ = some (.slice av L cv)) (c1 : w.cell? ⟨g, 1, none⟩ = some (.slice ac P P)) (gl : g < w.heap.size) (i5 : IntKind.i64.wrap ((m : Int) - (L : Int)) = (r : Int)) (g1 : m ≤ L) :
    Calls Try.prog 21 #[.pointer (some ⟨g, 0, none⟩), .agg #[.int .i64 1, .int .i64 n, .int .i64 d, .int .i64 i, .int .u32 a], .int .i64 m] w fun e w' => e = .returned (.bool false) ∧ Below w.heap.size w w' := by
  have t1 : decide (L < m) = false := decide_eq_false (by omega)
  have t2 : decide ((L : Int) < (m : Int)) = false := decide_eq_false (by omega)
  go_enter Try.func21, Try.ntmps21
  go_wp2
  go_quiet (fail)
  go_wp2
  go_quiet (fail)
  go_wp2
  go_ret
  exact ⟨rfl, bel_drN (bel_drN (bel_a1 _ _) _) _⟩
set_option maxHeartbeats 4000000 in
theorem no1 {g m r L cv P : Nat} {w : World} {av ac : Option Addr} {n d i a : Int} (c0 : w.cell? ⟨g, 0, none⟩ = some (.slice av L cv)) (c1 : w.cell? ⟨g, 1, none⟩ = some (.slice ac P P)) (gl : g < w.heap.size) (i5 : IntKind.i64.wrap ((m : Int) - (L : Int)) = (r : Int)) (g1 : n < 1) :
    Calls Try.prog 21 #[.pointer (some ⟨g, 0, none⟩), .agg #[.int .i64 2, .int .i64 n, .int .i64 d, .int .i64 i, .int .u32 a], .int .i64 m] w fun e w' => e = .returned (.bool false) ∧ Below w.heap.size w w' := by
  have t1 : decide (1 ≤ n) = false := decide_eq_false (by omega)
  clear g1
  go_enter Try.func21, Try.ntmps21
  go_wp2
  go_quiet (fail)
  go_wp2
  go_quiet (fail)
  go_wp2
  go_ret
  exact ⟨rfl, bel_drN (bel_drN (bel_a1 _ _) _) _⟩
set_option maxHeartbeats 4000000 in
theorem no2 {g m r L cv P : Nat} {w : World} {av ac : Option Addr} {n d i a : Int} (c0 : w.cell? ⟨g, 0, none⟩ = some (.slice av L cv)) (c1 : w.cell? ⟨g, 1, none⟩ = some (.slice ac P P)) (gl : g < w.heap.size) (i5 : IntKind.i64.wrap ((m : Int) - (L : Int)) = (r : Int)) (g1 : 1 ≤ n) (g2 : 4096 < n) :
    Calls Try.prog 21 #[.pointer (some ⟨g, 0, none⟩), .agg #[.int .i64 2, .int .i64 n, .int .i64 d, .int .i64 i, .int .u32 a], .int .i64 m] w fun e w' => e = .returned (.bool false) ∧ Below w.heap.size w w' := by
  have t1 : decide (n ≤ 4096) = false := decide_eq_false (by omega)
  clear g2
  go_enter Try.func21, Try.ntmps21
  go_wp2
  go_quiet (fail)
  go_wp2
  go_quiet (fail)
  go_wp2
  go_ret
  exact ⟨rfl, bel_drN (bel_drN (bel_a1 _ _) _) _⟩
end Go.Proofs.Ytpkiilnkiidoiaa.KRna
