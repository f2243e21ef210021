/- Contracts: bits.Reverse32 and the program's turned. Conditions: the number has at most 32 bits, and so many are asked for. -/
import Derived.Test.YtgjpcjnhggcfdaaDoorRvm
namespace Go.Proofs.YtgjpcjnhggcfdaaDoor.Rev
open Go.ChangeShapes Go.WideShapes Go.ChangeAt Go.RowKit Go.Proofs.YtgjpcjnhggcfdaaDoor.Core Go.Proofs.YtgjpcjnhggcfdaaDoor.Rvm

theorem swp_int (s M x : Nat) (hx : x < 4294967296) (hM : M < 4294967296) (h2 : M * 2 ^ s < 4294967296) :
    bits .or .u32 (bits .and .u32 ((x : Int) / 2 ^ s) (M : Int)) (bits .and .u32 (x : Int) (M : Int) * 2 ^ s) = ((swp s M x : Nat) : Int) := by
  have e1 : (x : Int) / 2 ^ s = ((x / 2 ^ s : Nat) : Int) := by simp
  have l1 : x / 2 ^ s < 4294967296 := Nat.lt_of_le_of_lt (Nat.div_le_self _ _) hx
  rw [e1, u32_and_nat _ _ l1 hM, u32_and_nat _ _ hx hM]
  have e2 : (((x &&& M : Nat) : Int) * 2 ^ s) = (((x &&& M) * 2 ^ s : Nat) : Int) := by simp
  have l2 : (x / 2 ^ s &&& M) < 4294967296 := Nat.lt_of_le_of_lt Nat.and_le_right hM
  have l3 : (x &&& M) * 2 ^ s < 4294967296 := Nat.lt_of_le_of_lt (Nat.mul_le_mul_right _ Nat.and_le_right) h2
  rw [e2, u32_or_nat _ _ l2 l3]
  rfl
theorem and_bd (x M : Nat) (hx : x < 4294967296) (hM : M < 4294967296) : 0 ≤ bits .and .u32 (x : Int) (M : Int) ∧ bits .and .u32 (x : Int) (M : Int) ≤ (M : Int) := by
  rw [u32_and_nat _ _ hx hM]
  have := Nat.and_le_right (n := x) (m := M)
  omega
theorem swp_bd (s M x : Nat) (h : M < 2 ^ 32) (h2 : M * 2 ^ s < 2 ^ 32) : (0 : Int) ≤ ((swp s M x : Nat) : Int) ∧ ((swp s M x : Nat) : Int) ≤ 4294967295 := by
  have := swp_lt s M x 32 h h2
  omega
set_option maxHeartbeats 400000 in
theorem rb52 (x : Nat) (w : World) (hx : x < 4294967296) :
    Calls Tryd.prog 69 #[.int .u32 x] w fun e w' => e = .returned (.int .u32 ((swp 8 16711935 x / 65536 ||| swp 8 16711935 x * 65536 % 4294967296 : Nat) : Int)) ∧ w' = w := by
  have h1 := swp_int 8 16711935 x hx (by decide) (by decide)
  have h2 := and_bd x 16711935 hx (by decide)
  have h3 := swp_bd 8 16711935 x (by decide) (by decide)
  simp at h1 h2
  generalize hy : swp 8 16711935 x = y at *
  go_enter Tryd.func69, Tryd.ntmps69
  go_wp2
  go_ret
  refine ⟨ret_int ?_, rfl⟩
  have e1 : (y : Int) / 65536 = ((y / 65536 : Nat) : Int) := by simp
  have e2 : (y : Int) * 65536 % 4294967296 = ((y * 65536 % 4294967296 : Nat) : Int) := by simp
  rw [e1, e2, u32_or_nat _ _ (by omega) (by omega)]
set_option maxHeartbeats 400000 in
theorem rev43 (x : Nat) (w : World) (hx : x < 4294967296) :
    Calls Tryd.prog 55 #[.int .u32 x] w fun e w' => e = .returned (.int .u32 ((rv 32 x : Nat) : Int)) ∧ w' = w := by
  have a1 := swp_int 1 1431655765 x hx (by decide) (by decide)
  have a2 := and_bd x 1431655765 hx (by decide)
  have a3 := swp_bd 1 1431655765 x (by decide) (by decide)
  have E := hide (rev_eq x hx)
  unfold rev rev32 at E
  generalize hy : swp 1 1431655765 x = y at *
  have b1 := swp_int 2 858993459 y (by omega) (by decide) (by decide)
  have b2 := and_bd y 858993459 (by omega) (by decide)
  have b3 := swp_bd 2 858993459 y (by decide) (by decide)
  generalize hz : swp 2 858993459 y = z at *
  have c1 := swp_int 4 252645135 z (by omega) (by decide) (by decide)
  have c2 := and_bd z 252645135 (by omega) (by decide)
  have c3 := swp_bd 4 252645135 z (by decide) (by decide)
  generalize hq : swp 4 252645135 z = q at *
  have RB := hide (rb52 q w (by omega))
  simp at a1 a2 b1 b2 c1 c2
  clear hy hz hq
  go_enter Tryd.func55, Tryd.ntmps55
  go_wp2_with fail
  refine (unhide RB).mono ?_
  rintro e w1 ⟨rfl, rfl⟩
  rw [unhide E]
  go_wp2
  go_ret
  exact ⟨rfl, rfl⟩
theorem turned31 (x n : Nat) (w : World) (hx : x < 4294967296) (hn : n ≤ 32) :
    Calls Tryd.prog 35 #[.int .u32 x, .int .i64 n] w fun e w' => e = .returned (.int .u32 ((rv n x : Nat) : Int)) ∧ w' = w := by
  have E := hide (rv_top n x hn)
  have hlt := rv_lt 32 x
  have R := hide (rev43 x w hx)
  generalize rv 32 x = y at *
  go_enter Tryd.func35, Tryd.ntmps35
  go_wp2_with fail
  refine (unhide R).mono ?_
  rintro e w1 ⟨rfl, rfl⟩
  go_wp2
  go_ret
  refine ⟨ret_int ?_, rfl⟩
  rw [← unhide E]
  simp
end Go.Proofs.YtgjpcjnhggcfdaaDoor.Rev
