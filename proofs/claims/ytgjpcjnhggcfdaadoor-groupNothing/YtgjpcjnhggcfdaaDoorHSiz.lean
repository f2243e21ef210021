/- Contracts: group.Sizes, places, isWidth, the document's Sizes. Conditions: the cache may be. -/
import Derived.Test.YtgjpcjnhggcfdaaDoorHNum
import Derived.Test.YtgjpcjnhggcfdaaDoorSml
import Derived.Laws.StructEq
import Derived.Laws.ResultCell
import Derived.Deep.CutRange
namespace Go.Proofs.YtgjpcjnhggcfdaaDoor.HSiz
set_option linter.unusedVariables false
open Go.ChangeShapes Go.WideShapes Go.ChangeAt Go.RowKit Go.Proofs.YtgjpcjnhggcfdaaDoor.Core Go.Proofs.YtgjpcjnhggcfdaaDoor.HNum

theorem pow_cast (b : Nat) : (2 : Int) ^ b = ((2 ^ b : Nat) : Int) := by simp
theorem bel_a1 (w : World) (o : Obj) : Below w.heap.size w (w.alloc o) := (Below.refl _ w).alloc (Nat.le_refl _) o
theorem bel_dr {B : Nat} {w w1 : World} (h : Below B w w1) : Below B w w1.drew := ⟨h.os, h.tape, h.output, h.size, h.block⟩
theorem bel_drN {B : Nat} {w w1 : World} (h : Below B w w1) (n : Nat) : Below B w (w1.drewN n) := ⟨h.os, h.tape, h.output, h.size, h.block⟩
theorem bel_into {w0 a b : World} (h : Below w0.heap.size w0 a) (k : Below a.heap.size a b) : Below w0.heap.size w0 b := h.trans (k.mono h.size)
theorem bel_next {B : Nat} {w0 a b : World} (h : Below B w0 a) (k : Below a.heap.size a b) (hB : B ≤ a.heap.size) : Below B w0 b := h.trans (k.mono hB)
set_option maxHeartbeats 400000 in
theorem sizes14 (c : Nat) (h : c ≤ 11) (w : World) : Calls Tryd.prog 14 #[.int .i64 c] w fun e w' => e = .returned (.agg (fvn (sz c))) ∧ Below w.heap.size w w' := by
  have hci : (c : Int) ≤ 11 := by omega
  by_cases h0 : c = 0
  · subst h0
    go_enter Tryd.func14, Tryd.ntmps14
    go_wp2
    have b1 := (Box.made w 50 #[.int .i64 280, .int .i64 256, .int .i64 256, .int .i64 256, .int .i64 40]).alloc (.cells #[.int .i64 280, .int .i64 256, .int .i64 256, .int .i64 256, .int .i64 40] 50)
    refine bodyPost_ret (results_cell_row rfl _ _ _ 50 _ (0, 0) _ rfl b1 Tryd.underlying50 rfl (by kernel_rfl)) rfl ⟨rfl, ((Below.refl _ w).alloc (Nat.le_refl _) _).alloc (by simp) _⟩
  · have hp : (2 : Int) ^ c = ((pl c : Nat) : Int) := by rw [pl, if_neg h0]; exact pow_cast c
    have hl := pl_le c h
    have hs : ((280 : Int) + ((pl c : Nat) : Int)) = ((sz c 0 : Nat) : Int) := by simp [sz]
    have hs1 : ((sz c 0 : Nat) : Int) ≤ 3000 := by have := (sz_bd c 0 h).2; omega
    have hpos : 0 < (c : Int) := by omega
    have HF := hide (show fvn (sz c) = #[.int .i64 (sz c 0 : Nat), .int .i64 256, .int .i64 256, .int .i64 256, .int .i64 40] from rfl)
    clear h0
    generalize pl c = m at *
    go_enter Tryd.func14, Tryd.ntmps14
    go_wp2
    go_region
    all_goals go_wp2
    all_goals (rw [unhide HF]; generalize hz : sz c 0 = z at *)
    all_goals exact bodyPost_ret (results_cell_row rfl _ _ _ 50 _ (0, 0) _ rfl ((Box.made w 50 #[.int .i64 z, .int .i64 256, .int .i64 256, .int .i64 256, .int .i64 40]).alloc (.cells #[.int .i64 z, .int .i64 256, .int .i64 256, .int .i64 256, .int .i64 40] 50)) Tryd.underlying50 rfl (by kernel_rfl)) rfl ⟨rfl, bel_dr ((bel_a1 w _).alloc (by simp) _)⟩
set_option maxHeartbeats 400000 in
theorem sizes15 (c : Nat) (h : c ≤ 11) (w : World) : Calls Tryd.prog 15 #[.int .i64 c] w fun e w' => e = .returned (.agg (fvn (sz c))) ∧ Below w.heap.size w w' := by
  have hci : (c : Int) ≤ 11 := by omega
  by_cases h0 : c = 0
  · subst h0
    go_enter Tryd.func15, Tryd.ntmps15
    go_wp2
    have b1 := (Box.made w 50 #[.int .i64 280, .int .i64 256, .int .i64 256, .int .i64 256, .int .i64 40]).alloc (.cells #[.int .i64 280, .int .i64 256, .int .i64 256, .int .i64 256, .int .i64 40] 50)
    refine bodyPost_ret (results_cell_row rfl _ _ _ 50 _ (0, 0) _ rfl b1 Tryd.underlying50 rfl (by kernel_rfl)) rfl ⟨rfl, ((Below.refl _ w).alloc (Nat.le_refl _) _).alloc (by simp) _⟩
  · have hp : (2 : Int) ^ c = ((pl c : Nat) : Int) := by rw [pl, if_neg h0]; exact pow_cast c
    have hl := pl_le c h
    have hs : ((280 : Int) + ((pl c : Nat) : Int)) = ((sz c 0 : Nat) : Int) := by simp [sz]
    have hs1 : ((sz c 0 : Nat) : Int) ≤ 3000 := by have := (sz_bd c 0 h).2; omega
    have hpos : 0 < (c : Int) := by omega
    have HF := hide (show fvn (sz c) = #[.int .i64 (sz c 0 : Nat), .int .i64 256, .int .i64 256, .int .i64 256, .int .i64 40] from rfl)
    clear h0
    generalize pl c = m at *
    go_enter Tryd.func15, Tryd.ntmps15
    go_wp2
    all_goals (rw [unhide HF]; generalize hz : sz c 0 = z at *)
    all_goals exact bodyPost_ret (results_cell_row rfl _ _ _ 50 _ (0, 0) _ rfl ((Box.made w 50 #[.int .i64 z, .int .i64 256, .int .i64 256, .int .i64 256, .int .i64 40]).alloc (.cells #[.int .i64 z, .int .i64 256, .int .i64 256, .int .i64 256, .int .i64 40] 50)) Tryd.underlying50 rfl (by kernel_rfl)) rfl ⟨rfl, (bel_a1 w _).alloc (by simp) _⟩
theorem places17 (s : Nat → Nat) (m : Nat) (h : s 0 = 280 + m) (hm : m ≤ 3000) (w : World) : Calls Tryd.prog 17 #[.agg (fvn s)] w fun e w' => e = .returned (.int .i64 m) ∧ Below w.heap.size w w' := by
  have e : ((s 0 : Nat) : Int) - 280 = (m : Int) := by omega
  have hs : ((s 0 : Nat) : Int) ≤ 4000 := by omega
  clear h
  unfold fvn
  generalize s 0 = z at *
  go_enter Tryd.func17, Tryd.ntmps17
  go_wp2
  go_ret
  exact ⟨rfl, (Below.refl _ w).alloc (Nat.le_refl _) _⟩
theorem isw20 (x : Int) (h0 : 1 ≤ x) (h1 : x ≤ 16384) (w : World) : Calls Tryd.prog 20 #[.int .i64 x] w fun e w' => e = .returned (.bool true) ∧ w' = w := by
  go_enter Tryd.func20, Tryd.ntmps20
  go_wp2
  go_ret
  exact ⟨rfl, rfl⟩
theorem eq_gen (n : Nat) (a b c d e : Int) (h : a ≠ 0) (w : World) : (Op.equalIn (n + 1 + 1) 50 (.agg #[.int .i64 a, .int .i64 b, .int .i64 c, .int .i64 d, .int .i64 e]) (.agg #[.int .i64 0, .int .i64 0, .int .i64 0, .int .i64 0, .int .i64 0])).run Tryd.prog w = .ok false w := by
  have e1 : ∀ (w : World), (Op.equalIn (n + 1) 3 (.int .i64 a) (.int .i64 0)).run Tryd.prog w = .ok false w := fun w => by
    rw [run_equalIn_int (h := Tryd.underlying3)]; simp [h]
  rw [Op.equalIn]
  simp only [Sem.run_bind, run_underlying Tryd.underlying50, Result.andThen_ok]
  generalize Op.equalIn (n + 1) = E at *
  simp [go_sem, Std.Legacy.Range.forIn_eq_forIn_range', List.range', e1]
theorem eq_five (a b c d e : Int) (h : a ≠ 0) (w : World) : (Op.equalIn 10000 50 (.agg #[.int .i64 a, .int .i64 b, .int .i64 c, .int .i64 d, .int .i64 e]) (.agg #[.int .i64 0, .int .i64 0, .int .i64 0, .int .i64 0, .int .i64 0])).run Tryd.prog w = .ok false w := eq_gen 9998 a b c d e h w
end Go.Proofs.YtgjpcjnhggcfdaaDoor.HSiz
