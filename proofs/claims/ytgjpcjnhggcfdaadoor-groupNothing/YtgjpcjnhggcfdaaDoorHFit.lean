/- Contracts: group.fits where each code has as many lengths as it must have. Conditions: the cache may be. -/
import Derived.Test.YtgjpcjnhggcfdaaDoorHSiz
namespace Go.Proofs.YtgjpcjnhggcfdaaDoor.HFit
set_option linter.unusedVariables false
open Go.ChangeShapes Go.WideShapes Go.ChangeAt Go.RowKit Go.Proofs.YtgjpcjnhggcfdaaDoor.Core Go.Proofs.YtgjpcjnhggcfdaaDoor.HNum Go.Proofs.YtgjpcjnhggcfdaaDoor.HSiz

theorem fv_at (u : Nat → Value) (i : Nat) (h : i < 5) : (fv u)[i]? = some (u i) := by
  rcases lt5 h with rfl | rfl | rfl | rfl | rfl <;> rfl
theorem fvn_at (s : Nat → Nat) (i : Nat) (h : i < 5) : (fvn s)[i]? = some (.int .i64 (s i)) := by
  rcases lt5 h with rfl | rfl | rfl | rfl | rfl <;> rfl
theorem index_fv (u : Nat → Value) (i : Nat) (h : i < 5) (w : World) : (Instr.index 27 (.agg #[u 0, u 1, u 2, u 3, u 4]) (.int .i64 i)).run Tryd.prog w = .ok (u i) w := by
  have h1 : ∀ (v : Array Value) (x : Value), v[i]? = some x → (Instr.index 27 (.agg v) (.int .i64 i)).run Tryd.prog w = .ok x w := by
    intro v x hv
    simp [Instr.index, run_underlying Tryd.underlying27, asIntOf, h, go_sem, hv]
  exact h1 _ _ (fv_at u i h)
theorem index_fvn (s : Nat → Nat) (i : Nat) (h : i < 5) (w : World) : (Instr.index 50 (.agg (fvn s)) (.int .i64 i)).run Tryd.prog w = .ok (.int .i64 (s i)) w := by
  have h1 : ∀ (v : Array Value) (x : Value), v[i]? = some x → (Instr.index 50 (.agg v) (.int .i64 i)).run Tryd.prog w = .ok x w := by
    intro v x hv
    simp [Instr.index, run_underlying Tryd.underlying50, asIntOf, h, go_sem, hv]
  exact h1 _ _ (fvn_at s i h)
/-- Five slices of so many numbers. -/
def sl5 (a : Nat → Option Addr) (n cp : Nat → Nat) (i : Nat) : Value := .slice (a i) (n i) (cp i)
set_option maxHeartbeats 1000000 in
theorem fits16 (a : Nat → Option Addr) (cp : Nat → Nat) (c : Nat) (h : c ≤ 11) (w : World) :
    Calls Tryd.prog 16 #[.agg (fv (sl5 a (sz c) cp)), .int .i64 c] w fun e w' => e = .returned (.bool true) ∧ Below w.heap.size w w' := by
  have S := hide (fun w => sizes14 c h w)
  have IX := hide (index_fv (sl5 a (sz c) cp))
  have h0 : ¬ ((sz c 0 : Nat) : Int) = 0 := by have := (sz_bd c 0 h).1; omega
  have EQ := hide (fun w => eq_five (sz c 0 : Nat) (sz c 1 : Nat) (sz c 2 : Nat) (sz c 3 : Nat) (sz c 4 : Nat) h0 w)
  have FV := hide (fvn_at (sz c))
  clear h h0
  simp only [fv] at *
  unfold fvn at S FV
  go_enter Tryd.func16, Tryd.ntmps16
  go_wp2_with fail
  refine (unhide S _).mono ?_
  rintro e w1 ⟨rfl, b1⟩
  have b0 := (Box.made w 27 #[sl5 a (sz c) cp 0, sl5 a (sz c) cp 1, sl5 a (sz c) cp 2, sl5 a (sz c) cp 3, sl5 a (sz c) cp 4]).below b1 (by simp)
  have x0 : w1.cell? ⟨w.heap.size, 0, none⟩ = some (sl5 a (sz c) cp 0) := b0.cell 0
  have x1 : w1.cell? ⟨w.heap.size, 1, none⟩ = some (sl5 a (sz c) cp 1) := b0.cell 1
  have x2 : w1.cell? ⟨w.heap.size, 2, none⟩ = some (sl5 a (sz c) cp 2) := b0.cell 2
  have x3 : w1.cell? ⟨w.heap.size, 3, none⟩ = some (sl5 a (sz c) cp 3) := b0.cell 3
  have x4 : w1.cell? ⟨w.heap.size, 4, none⟩ = some (sl5 a (sz c) cp 4) := b0.cell 4
  have hlt := b0.lt
  have B1 := hide ((bel_a1 w _).trans (b1.mono (by simp)))
  clear b1 b0
  go_wp2
  have B2 := hide ((unhide B1).alloc (Nat.le_of_lt hlt) (.cells #[.int .i64 (sz c 0 : Nat), .int .i64 (sz c 1 : Nat), .int .i64 (sz c 2 : Nat), .int .i64 (sz c 3 : Nat), .int .i64 (sz c 4 : Nat)] 50))
  have b5 := Box.made w1 50 #[.int .i64 (sz c 0 : Nat), .int .i64 (sz c 1 : Nat), .int .i64 (sz c 2 : Nat), .int .i64 (sz c 3 : Nat), .int .i64 (sz c 4 : Nat)]
  generalize w1.alloc (.cells #[.int .i64 (sz c 0 : Nat), .int .i64 (sz c 1 : Nat), .int .i64 (sz c 2 : Nat), .int .i64 (sz c 3 : Nat), .int .i64 (sz c 4 : Nat)] 50) = w2 at *
  have B5 := hide b5
  clear b5 x0 x1 x2 x3 x4 hlt B1 S
  go_loopw [11] (fun x wr => ∃ i : Nat, i ≤ 5 ∧ x = .int .i64 i ∧ wr = w2) (fun x _ => 5 - (intOf x).toNat)
  case atStart => exact ⟨0, by omega, rfl, rfl⟩
  case round =>
    obtain ⟨i, hi, rfl, rfl⟩ := hrel
    by_cases hlt : i < 5
    · have hlt' : (i : Int) < 5 := by omega
      have ix := unhide IX i hlt
      have c0 := ((unhide B5).cell i).trans (unhide FV i hlt)
      have sq : sl5 a (sz c) cp i = .slice (a i) (sz c i) (cp i) := rfl
      rw [sq] at ix
      clear sq
      generalize sz c i = z at *
      go_wp2
      go_roundw
      case rel => exact ⟨i + 1, by omega, by go_num, by first | rfl | trivial⟩
      case measure => simp [intOf]; omega
    · obtain rfl : i = 5 := by omega
      have d0 := (unhide B5).cell 0
      have d1 := (unhide B5).cell 1
      have d2 := (unhide B5).cell 2
      have d3 := (unhide B5).cell 3
      have d4 := (unhide B5).cell 4
      have eq := unhide EQ
      go_wp2
      go_ret
      exact ⟨rfl, unhide B2⟩
end Go.Proofs.YtgjpcjnhggcfdaaDoor.HFit
