/- Contracts: le.Blocks and ref.Blocks answer the same number, told by plain arithmetic. Conditions: none on the numbers. -/
import Derived.Test.YtenhoipnenmeaaaProd
namespace Go.Proofs.Ytenhoipnenmeaaa.Blk
open Go.ChangeShapes Go.WideShapes Go.ChangeAt Go.RowKit Go.Proofs.Ytenhoipnenmeaaa.Prod

theorem ret_int {k : IntKind} {a b : Int} (h : a = b) : Ending.returned (.int k a) = .returned (.int k b) := by rw [h]
/-- n by two to k, rounded up. -/
def blkV (n k : Int) : Int := if 0 ≤ n ∧ n ≤ 16777216 ∧ 0 ≤ k ∧ k ≤ 30 then (n + 2 ^ k.toNat - 1) / 2 ^ k.toNat else 0

theorem pow_bd (k : Nat) (h : k ≤ 30) : (1 : Int) ≤ 2 ^ k ∧ (2 : Int) ^ k ≤ 1073741824 := by
  have h1 : (2 : Nat) ^ k ≤ 2 ^ 30 := Nat.pow_le_pow_right (by omega) h
  have h2 : 0 < (2 : Nat) ^ k := Nat.pow_pos (by omega)
  have h3 : ((2 ^ k : Nat) : Int) = (2 : Int) ^ k := by simp
  have h4 : (2 : Nat) ^ 30 = 1073741824 := by decide
  omega
theorem up_zero (n s : Int) (hs : 0 < s) (h : n % s = 0) : (n + s - 1) / s = n / s := by
  have e : n = s * (n / s) := by have := Int.mul_ediv_add_emod n s; omega
  have h1 : (n + s - 1) = (s - 1) + s * (n / s) := by omega
  rw [h1, Int.add_mul_ediv_left _ _ (by omega : s ≠ 0), Int.ediv_eq_zero_of_lt (by omega) (by omega)]; omega
theorem up_some (n s : Int) (hs : 0 < s) (h : ¬ n % s = 0) : (n + s - 1) / s = n / s + 1 := by
  have e := Int.mul_ediv_add_emod n s
  have l := Int.emod_lt_of_pos n hs
  have g := Int.emod_nonneg n (by omega : s ≠ 0)
  have h1 : (n + s - 1) = (n % s - 1) + s * (n / s + 1) := by rw [Int.mul_add]; omega
  rw [h1, Int.add_mul_ediv_left _ _ (by omega : s ≠ 0), Int.ediv_eq_zero_of_lt (by omega) (by omega)]; omega

theorem blk_out (n k : Int) (h : n < 0 ∨ 16777216 < n ∨ k < 0 ∨ 30 < k) : blkV n k = 0 := if_neg (by omega)
theorem blk_in (n : Int) (k : Nat) (h0 : 0 ≤ n) (h1 : n ≤ 16777216) (h : k ≤ 30) : blkV n k = (n + 2 ^ k - 1) / 2 ^ k := by
  unfold blkV; rw [if_pos (by omega)]; simp

set_option maxHeartbeats 400000 in
theorem blk16 (n k : Int) (w : World) :
    Calls Try.prog 16 #[.int .i64 n, .int .i64 k] w fun e w' => e = .returned (.int .i64 (blkV n k)) ∧ w' = w := by
  by_cases h : n < 0 ∨ 16777216 < n ∨ k < 0 ∨ 30 < k
  · have H := hide (blk_out n k h)
    go_enter Try.func16, Try.ntmps16
    go_wp2
    all_goals go_ret
    all_goals exact ⟨ret_int (unhide H).symm, rfl⟩
  · obtain ⟨k, rfl⟩ := Int.eq_ofNat_of_zero_le (show 0 ≤ k by omega)
    have h0 : 0 ≤ n := by omega
    have h1 : n ≤ 16777216 := by omega
    have h2 : k ≤ 30 := by omega
    have H := hide (blk_in n k h0 h1 h2)
    obtain ⟨p1, p2⟩ := pow_bd k h2
    clear h
    go_enter Try.func16, Try.ntmps16
    go_wp2
    all_goals go_ret
    all_goals refine ⟨ret_int ?_, rfl⟩
    all_goals rw [unhide H]

set_option maxHeartbeats 400000 in
theorem blk17 (n k : Int) (w : World) :
    Calls Try.prog 17 #[.int .i64 n, .int .i64 k] w fun e w' => e = .returned (.int .i64 (blkV n k)) ∧ w' = w := by
  by_cases h : n < 0 ∨ 16777216 < n ∨ k < 0 ∨ 30 < k
  · have H := hide (blk_out n k h)
    go_enter Try.func17, Try.ntmps17
    go_wp2
    all_goals go_ret
    all_goals exact ⟨ret_int (unhide H).symm, rfl⟩
  · obtain ⟨k, rfl⟩ := Int.eq_ofNat_of_zero_le (show 0 ≤ k by omega)
    have h0 : 0 ≤ n := by omega
    have h1 : n ≤ 16777216 := by omega
    have h2 : k ≤ 30 := by omega
    have h3 : (0 : Int) ≤ (k : Int) := by omega
    have h4 : (k : Int) ≤ 30 := by omega
    have H := hide (blk_in n k h0 h1 h2)
    clear h
    go_enter Try.func17, Try.ntmps17
    go_wp2
    go_loop [5, 6] (fun s i => ∃ j : Nat, j ≤ k ∧ i = .int .i64 j ∧ s = .int .i64 (2 ^ j)) (fun _ i => k - (intOf i).toNat)
    case atStart => exact ⟨0, Nat.zero_le _, rfl, rfl⟩
    case round =>
      obtain ⟨j, hj, rfl, rfl⟩ := hrel
      obtain ⟨p1, p2⟩ := pow_bd j (by omega)
      by_cases hlt : j < k
      · have P := hide (Int.pow_succ 2 j)
        go_wp2
        go_round
        case rel => exact ⟨j + 1, by omega, by go_num, by rw [unhide P]⟩
        case measure => simp [intOf]; omega
      · have e : j = k := by omega
        subst e
        by_cases hz : n % 2 ^ j = 0
        · have Z := hide (up_zero n (2 ^ j) (by omega) hz)
          go_wp2
          go_ret
          exact ⟨ret_int (by rw [unhide H, unhide Z]), rfl⟩
        · have Z := hide (up_some n (2 ^ j) (by omega) hz)
          have d1 : n / 2 ^ j ≤ n := Int.ediv_le_self _ h0
          have d2 : 0 ≤ n / 2 ^ j := Int.ediv_nonneg h0 (by omega)
          go_wp2
          go_ret
          exact ⟨ret_int (by rw [unhide H, unhide Z]), rfl⟩
end Go.Proofs.Ytenhoipnenmeaaa.Blk
