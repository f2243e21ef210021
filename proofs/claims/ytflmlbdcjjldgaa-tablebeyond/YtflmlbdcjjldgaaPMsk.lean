/- Plain numbers: one of a pixel's four, cut out. No conditions. -/
import Derived.Test.YtflmlbdcjjldgaaPNum
import Derived.Laws.BitsAllLaws
namespace Go.Proofs.Ytflmlbdcjjldgaa.PMsk
open Go.Proofs.Ytflmlbdcjjldgaa.PNum

theorem and_mask (a e : Nat) : a &&& (255 * 2 ^ e) = a / 2 ^ e % 256 * 2 ^ e := by
  apply Nat.eq_of_testBit_eq
  intro i
  rw [Nat.testBit_and, Nat.testBit_mul_two_pow, Nat.testBit_mul_two_pow]
  by_cases h : e ≤ i
  · rw [show (255 : Nat) = 2 ^ 8 - 1 from rfl, show (256 : Nat) = 2 ^ 8 from rfl, Nat.testBit_two_pow_sub_one, Nat.testBit_mod_two_pow, Nat.testBit_div_two_pow]
    rw [Nat.sub_add_cancel h]
    simp [h, Bool.and_comm]
  · simp [h]
/-- The pixel of which one of the four is left alone. -/
def one (i a : Nat) : Nat := pt a i * 2 ^ (24 - 8 * i)
theorem and_one (a i : Nat) : a &&& (255 * 2 ^ (24 - 8 * i)) = one i a := and_mask a _
theorem pt_one (a : Nat) {i : Nat} (hi : i < 4) : pt (one i a) i = pt a i := by
  have l := pt_lt a i
  have : i = 0 ∨ i = 1 ∨ i = 2 ∨ i = 3 := by omega
  rcases this with rfl | rfl | rfl | rfl
  · rw [pt_0 (one 0 a)]; unfold one; simp only [Nat.mul_zero, Nat.sub_zero]; omega
  · rw [pt_1 (one 1 a)]; unfold one; omega
  · rw [pt_2 (one 2 a)]; unfold one; omega
  · rw [pt_3 (one 3 a)]; unfold one; omega
theorem one_lt (a : Nat) {i : Nat} (hi : i < 4) : one i a < 4294967296 := by
  have l := pt_lt a i
  have : i = 0 ∨ i = 1 ∨ i = 2 ∨ i = 3 := by omega
  rcases this with rfl | rfl | rfl | rfl <;> unfold one <;> omega
theorem one_eq {a b i : Nat} (h : pt a i = pt b i) : one i a = one i b := by unfold one; rw [h]
theorem one_add (p q : Nat) {i : Nat} (hi : i < 4) : one i (addV (one i p) (one i q)) = one i (addV p q) :=
  one_eq (by rw [pt_addV _ _ hi, pt_addV _ _ hi]; unfold addF; rw [pt_one p hi, pt_one q hi])
theorem one_sub (p q : Nat) {i : Nat} (hi : i < 4) : one i (subV (one i p) (one i q)) = one i (subV p q) :=
  one_eq (by rw [pt_subV _ _ hi, pt_subV _ _ hi]; unfold subF; rw [pt_one p hi, pt_one q hi])
theorem one_avg (p q : Nat) {i : Nat} (hi : i < 4) : one i (avgV (one i p) (one i q)) = one i (avgV p q) :=
  one_eq (by rw [pt_avgV _ _ hi, pt_avgV _ _ hi]; unfold avgF; rw [pt_one p hi, pt_one q hi])
theorem one_full (p q u : Nat) {i : Nat} (hi : i < 4) : one i (fullV (one i p) (one i q) (one i u)) = one i (fullV p q u) :=
  one_eq (by rw [pt_fullV _ _ _ hi, pt_fullV _ _ _ hi]; unfold fullF; rw [pt_one p hi, pt_one q hi, pt_one u hi])
theorem one_half (p q : Nat) {i : Nat} (hi : i < 4) : one i (halfV (one i p) (one i q)) = one i (halfV p q) :=
  one_eq (by rw [pt_halfV _ _ hi, pt_halfV _ _ hi]; unfold halfF; rw [pt_one p hi, pt_one q hi])
/-- The mask of one of the four. -/
def msk (i : Nat) : Int := ((255 * 2 ^ (24 - 8 * i) : Nat) : Int)
theorem bits_one (a : Nat) {i : Nat} (hi : i < 4) (ha : a < 4294967296) : bits .and .u32 (a : Int) (msk i) = (one i a : Int) := by
  have hm : 255 * 2 ^ (24 - 8 * i) < 4294967296 := by
    have : i = 0 ∨ i = 1 ∨ i = 2 ∨ i = 3 := by omega
    rcases this with rfl | rfl | rfl | rfl <;> omega
  unfold msk
  rw [u32_and_nat _ _ ha hm, and_one]
end Go.Proofs.Ytflmlbdcjjldgaa.PMsk
