/- Contracts: le.Blocks, the document's Blocks, Block and Many. Conditions: the sides and the bits are those of an image that may be. -/
import Derived.Test.YtflmlbdcjjldgaaBase
namespace Go.Proofs.Ytflmlbdcjjldgaa.LBlk
set_option linter.unusedVariables false
open Go.ChangeShapes Go.WideShapes Go.ChangeAt Go.RowKit Go.Proofs.Ytflmlbdcjjldgaa.Core

/-- n by two to k, rounded up. -/
def bl (n k : Nat) : Nat := (n + 2 ^ k - 1) / 2 ^ k
/-- The number of the block of the pixel at x, y. -/
def bk (W k x y : Nat) : Nat := y / 2 ^ k * bl W k + x / 2 ^ k
theorem pow_pos (k : Nat) : 0 < 2 ^ k := Nat.pow_pos (by omega)
theorem bl_le (n k : Nat) : bl n k ≤ n := by
  have p := pow_pos k
  rcases Nat.eq_zero_or_pos n with rfl | h
  · unfold bl; rw [Nat.div_eq_of_lt (by omega)]; omega
  · have h2 : 2 ^ k ≤ n * 2 ^ k := Nat.le_mul_of_pos_left _ h
    have h3 : n ≤ n * 2 ^ k := Nat.le_mul_of_pos_right _ p
    unfold bl
    obtain ⟨m, rfl⟩ : ∃ m, n = m + 1 := ⟨n - 1, by omega⟩
    have h4 : m ≤ m * 2 ^ k := Nat.le_mul_of_pos_right _ p
    have : m + 1 + 2 ^ k - 1 < (m + 1 + 1) * 2 ^ k := by rw [Nat.add_mul, Nat.add_mul, Nat.one_mul]; omega
    have := (Nat.div_lt_iff_lt_mul p).2 this
    omega
theorem bl_pos {n : Nat} (k : Nat) (h : 0 < n) : 0 < bl n k := by
  have p := pow_pos k
  unfold bl
  exact Nat.div_pos (by omega) p
theorem in_bl {n x : Nat} (k : Nat) (h : x < n) : x / 2 ^ k < bl n k := by
  have p := pow_pos k
  unfold bl
  rw [Nat.lt_iff_add_one_le, Nat.le_div_iff_mul_le p, Nat.add_mul, Nat.one_mul]
  have := Nat.div_mul_le_self x (2 ^ k)
  omega
theorem bk_lt {W H x y : Nat} (k : Nat) (hx : x < W) (hy : y < H) : bk W k x y < bl W k * bl H k := by
  have h1 := in_bl k hx
  have h2 := in_bl k hy
  unfold bk
  generalize y / 2 ^ k = q at *
  generalize x / 2 ^ k = p at *
  generalize bl W k = a at *
  generalize bl H k = b at *
  have : (q + 1) * a ≤ b * a := Nat.mul_le_mul_right _ h2
  rw [Nat.add_mul, Nat.one_mul] at this
  rw [Nat.mul_comm a b]
  omega
theorem pow_cast (k : Nat) : ((2 ^ k : Nat) : Int) = (2 : Int) ^ k := by simp
theorem bl_cast (n k : Nat) : ((bl n k : Nat) : Int) = ((n : Int) + 2 ^ k - 1) / 2 ^ k := by
  have p := pow_pos k
  unfold bl
  rw [Int.natCast_ediv, pow_cast, Int.natCast_sub (by omega), Int.natCast_add, pow_cast]
  rfl
theorem pow_bd (k : Nat) (h : k ≤ 30) : (1 : Int) ≤ 2 ^ k ∧ (2 : Int) ^ k ≤ 1073741824 := by
  have h1 : (2 : Nat) ^ k ≤ 2 ^ 30 := Nat.pow_le_pow_right (by omega) h
  have h2 : 0 < (2 : Nat) ^ k := Nat.pow_pos (by omega)
  have h3 : ((2 ^ k : Nat) : Int) = (2 : Int) ^ k := by simp
  have h4 : (2 : Nat) ^ 30 = 1073741824 := by decide
  omega
theorem up_zero (n s : Int) (hs : 0 < s) (h : n % s = 0) : (n + s - 1) / s = n / s := by
  have e : n = s * (n / s) := by have := Int.mul_ediv_add_emod n s; omega
  have h1 : (n + s - 1) = (s - 1) + s * (n / s) := by omega
  rw [h1, Int.add_mul_ediv_left _ _ (by omega : s ≠ 0), Int.ediv_eq_zero_of_lt (by omega) (by omega)]; omega
theorem up_some (n s : Int) (hs : 0 < s) (h : ¬ n % s = 0) : (n + s - 1) / s = n / s + 1 := by
  have e := Int.mul_ediv_add_emod n s
  have l := Int.emod_lt_of_pos n hs
  have g := Int.emod_nonneg n (by omega : s ≠ 0)
  have h1 : (n + s - 1) = (n % s - 1) + s * (n / s + 1) := by rw [Int.mul_add]; omega
  rw [h1, Int.add_mul_ediv_left _ _ (by omega : s ≠ 0), Int.ediv_eq_zero_of_lt (by omega) (by omega)]; omega
set_option maxHeartbeats 400000 in
theorem blI (n : Int) (k : Nat) (w : World) (h0 : 0 ≤ n) (h1 : n ≤ 16777216) (h2 : k ≤ 30) :
    Calls Try.prog 44 #[.int .i64 n, .int .i64 k] w fun e w' => e = .returned (.int .i64 ((n + 2 ^ k - 1) / 2 ^ k)) ∧ w' = w := by
  obtain ⟨p1, p2⟩ := pow_bd k h2
  go_enter Try.func44, Try.ntmps44
  go_wp2
  all_goals go_ret
  all_goals exact ⟨rfl, rfl⟩
theorem blk36 (n k : Nat) (w : World) (h1 : n ≤ 16384) (h2 : k ≤ 9) :
    Calls Try.prog 44 #[.int .i64 n, .int .i64 k] w fun e w' => e = .returned (.int .i64 (bl n k)) ∧ w' = w := by
  rw [bl_cast]
  exact blI n k w (by omega) (by omega) (by omega)
set_option maxHeartbeats 400000 in
theorem rblI (n : Int) (k : Nat) (w : World) (h0 : 0 ≤ n) (h1 : n ≤ 16777216) (h2 : k ≤ 30) :
    Calls Try.prog 36 #[.int .i64 n, .int .i64 k] w fun e w' => e = .returned (.int .i64 ((n + 2 ^ k - 1) / 2 ^ k)) ∧ w' = w := by
  have h3 : (0 : Int) ≤ (k : Int) := by omega
  have h4 : (k : Int) ≤ 30 := by omega
  go_enter Try.func36, Try.ntmps36
  go_wp2
  go_loop [5, 6] (fun s i => ∃ j : Nat, j ≤ k ∧ i = .int .i64 j ∧ s = .int .i64 (2 ^ j)) (fun _ i => k - (intOf i).toNat)
  case atStart => exact ⟨0, Nat.zero_le _, rfl, rfl⟩
  case round =>
    obtain ⟨j, hj, rfl, rfl⟩ := hrel
    obtain ⟨p1, p2⟩ := pow_bd j (by omega)
    by_cases hlt : j < k
    · have P := hide (Int.pow_succ 2 j)
      go_wp2
      go_round
      case rel => exact ⟨j + 1, by omega, by go_num, by rw [unhide P]⟩
      case measure => simp [intOf]; omega
    · have e : j = k := by omega
      subst e
      by_cases hz : n % 2 ^ j = 0
      · have Z := hide (up_zero n (2 ^ j) (by omega) hz)
        go_wp2
        go_ret
        exact ⟨ret_int (by rw [unhide Z]), rfl⟩
      · have Z := hide (up_some n (2 ^ j) (by omega) hz)
        have d1 : n / 2 ^ j ≤ n := Int.ediv_le_self _ h0
        have d2 : 0 ≤ n / 2 ^ j := Int.ediv_nonneg h0 (by omega)
        go_wp2
        go_ret
        exact ⟨ret_int (by rw [unhide Z]), rfl⟩
theorem rblk16 (n k : Nat) (w : World) (h1 : n ≤ 16384) (h2 : k ≤ 9) :
    Calls Try.prog 36 #[.int .i64 n, .int .i64 k] w fun e w' => e = .returned (.int .i64 (bl n k)) ∧ w' = w := by
  rw [bl_cast]
  exact rblI n k w (by omega) (by omega) (by omega)
theorem prod_wrap {a b : Nat} (ha : a ≤ 16384) (hb : b ≤ 16384) : IntKind.i64.wrap ((a : Int) * (b : Int)) = ((a * b : Nat) : Int) := by
  have l : a * b ≤ 16384 * 16384 := Nat.mul_le_mul ha hb
  rw [← Int.natCast_mul]
  generalize a * b = z at *
  simp [IntKind.wrap, IntKind.bits, IntKind.signed]; omega
theorem tdiv_nat (a b : Nat) : ((a : Int)).tdiv (b : Int) = ((a / b : Nat) : Int) := rfl
theorem tmod_nat (a b : Nat) : ((a : Int)).tmod (b : Int) = ((a % b : Nat) : Int) := rfl
theorem pow_le (k : Nat) (h : k ≤ 9) : 2 ^ k ≤ 512 := Nat.pow_le_pow_right (by omega) h
theorem div_le_side {x n k : Nat} (hx : x < n) (hn : n ≤ 16384) : x / 2 ^ k ≤ 16384 := by
  have := Nat.div_le_self x (2 ^ k)
  omega
end Go.Proofs.Ytflmlbdcjjldgaa.LBlk
