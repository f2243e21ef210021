/- Numbers alone: bits in turned order, by halves of words; the bits of a number, the first one highest. No conditions. -/
import Derived.Test.YtgjpcjnhggcfdaaDoorBase
namespace Go.Proofs.YtgjpcjnhggcfdaaDoor.Rvm

/-- The lowest n bits of v, the last of them first. -/
def rv : Nat → Nat → Nat
  | 0, _ => 0
  | n + 1, v => v % 2 * 2 ^ n + rv n (v / 2)
theorem rv_lt : ∀ n v, rv n v < 2 ^ n
  | 0, _ => by simp [rv]
  | n + 1, v => by
    have h := rv_lt n (v / 2)
    have h2 : v % 2 * 2 ^ n ≤ 1 * 2 ^ n := Nat.mul_le_mul_right _ (by omega)
    simp only [rv]
    rw [Nat.pow_succ]
    omega
theorem rv_bit : ∀ n v i, (rv n v).testBit i = (decide (i < n) && v.testBit (n - 1 - i))
  | 0, v, i => by simp [rv]
  | n + 1, v, i => by
    have ih := rv_bit n (v / 2) i
    have hl := rv_lt n (v / 2)
    simp only [rv]
    rw [Nat.mul_comm, Nat.testBit_two_pow_mul_add _ hl]
    by_cases h : i < n
    · rw [if_pos h, ih]
      have e : n + 1 - 1 - i = (n - 1 - i) + 1 := by omega
      rw [e, Nat.testBit_succ]
      simp [h, show i < n + 1 by omega]
    · rw [if_neg h]
      by_cases h2 : i = n
      · subst h2
        have e : i + 1 - 1 - i = 0 := by omega
        rw [e, Nat.sub_self]
        simp only [Nat.testBit_zero]
        simp
      · have h3 : ¬ i < n + 1 := by omega
        rw [Nat.testBit_lt_two_pow (Nat.lt_of_lt_of_le (Nat.mod_lt v (by omega)) (show 2 ≤ 2 ^ (i - n) from Nat.pow_le_pow_right (n := 2) (i := 1) (by omega) (by omega)))]
        simp [h3]
theorem rv_top (n v : Nat) (h : n ≤ 32) : rv 32 v / 2 ^ (32 - n) = rv n v := by
  apply Nat.eq_of_testBit_eq
  intro i
  rw [← Nat.shiftRight_eq_div_pow, Nat.testBit_shiftRight, rv_bit, rv_bit]
  by_cases hi : i < n
  · simp only [hi, show 32 - n + i < 32 by omega, decide_true, Bool.true_and]
    congr 1
    omega
  · simp [hi, show ¬ 32 - n + i < 32 by omega]
theorem rv_rv (n v : Nat) (h : v < 2 ^ n) : rv n (rv n v) = v := by
  apply Nat.eq_of_testBit_eq
  intro i
  rw [rv_bit, rv_bit]
  by_cases hi : i < n
  · simp only [hi, show n - 1 - i < n by omega, decide_true, Bool.true_and]
    congr 1
    omega
  · rw [Nat.testBit_lt_two_pow (Nat.lt_of_lt_of_le h (Nat.pow_le_pow_right (by omega) (show n ≤ i by omega)))]
    simp [hi]
theorem rv_zero (n : Nat) : rv n 0 = 0 := by
  apply Nat.eq_of_testBit_eq
  intro i
  rw [rv_bit]
  simp
theorem rv_snoc (m x b : Nat) (hx : x < 2 ^ m) (hb : b ≤ 1) : rv (m + 1) (x + b * 2 ^ m) = 2 * rv m x + b := by
  apply Nat.eq_of_testBit_eq
  intro i
  rw [rv_bit, Nat.add_comm x, Nat.mul_comm b, Nat.testBit_two_pow_mul_add _ hx]
  have hl : b < 2 ^ 1 := by omega
  rw [show 2 * rv m x + b = 2 ^ 1 * rv m x + b from rfl, Nat.testBit_two_pow_mul_add _ hl, rv_bit]
  by_cases h0 : i = 0
  · subst h0
    rw [if_neg (by omega), if_pos (by omega)]
    simp
  · rw [if_neg (show ¬ i < 1 by omega)]
    by_cases hi : i < m + 1
    · rw [if_pos (by omega)]
      simp only [hi, show i - 1 < m by omega, decide_true, Bool.true_and]
      congr 1
      omega
    · simp [hi, show ¬ i - 1 < m by omega]

/-- Parts of s bits each, changed two by two. -/
def swp (s M x : Nat) : Nat := (x / 2 ^ s &&& M) ||| (x &&& M) * 2 ^ s
theorem swp_bit (s M x i : Nat) : (swp s M x).testBit i = ((x.testBit (s + i) && M.testBit i) || (decide (s ≤ i) && (x.testBit (i - s) && M.testBit (i - s)))) := by
  unfold swp
  rw [Nat.testBit_or, Nat.testBit_and, ← Nat.shiftRight_eq_div_pow, Nat.testBit_shiftRight, ← Nat.shiftLeft_eq, Nat.testBit_shiftLeft, Nat.testBit_and]
theorem swp_lt (s M x k : Nat) (h : M < 2 ^ k) (h2 : M * 2 ^ s < 2 ^ k) : swp s M x < 2 ^ k := by
  unfold swp
  refine Nat.or_lt_two_pow ?_ ?_
  · exact Nat.lt_of_le_of_lt Nat.and_le_right h
  · exact Nat.lt_of_le_of_lt (Nat.mul_le_mul_right _ Nat.and_le_right) h2
def rev32 (x : Nat) : Nat := swp 8 16711935 (swp 4 252645135 (swp 2 858993459 (swp 1 1431655765 x)))
def rev (x : Nat) : Nat := rev32 x / 65536 ||| rev32 x * 65536 % 4294967296
theorem m1 : ∀ i, i < 64 → (1431655765 : Nat).testBit i = (decide (i < 32) && decide (i % 2 = 0)) := by decide
theorem m2 : ∀ i, i < 64 → (858993459 : Nat).testBit i = (decide (i < 32) && decide (i / 2 % 2 = 0)) := by decide
theorem m4 : ∀ i, i < 64 → (252645135 : Nat).testBit i = (decide (i < 32) && decide (i / 4 % 2 = 0)) := by decide
theorem m8 : ∀ i, i < 64 → (16711935 : Nat).testBit i = (decide (i < 32) && decide (i / 8 % 2 = 0)) := by decide
theorem rev32_lt (x : Nat) : rev32 x < 4294967296 := swp_lt 8 16711935 _ 32 (by decide) (by decide)
theorem swp_at (s M x : Nat) (hM : ∀ i, i < 64 → M.testBit i = (decide (i < 32) && decide (i / s % 2 = 0))) (i : Nat) (hi : i < 32) (hs : 0 < s) : (swp s M x).testBit i = if i / s % 2 = 0 then x.testBit (i + s) else x.testBit (i - s) := by
  rw [swp_bit, hM i (by omega), hM (i - s) (by omega)]
  by_cases h : i / s % 2 = 0
  · simp only [hi, h, decide_true, Bool.and_true, if_true, Nat.add_comm s i]
    by_cases h2 : s ≤ i
    · have e : i / s = (i - s) / s + 1 := by
        rw [← Nat.add_div_right _ hs, Nat.sub_add_cancel h2]
      have h3 : ¬ (i - s) / s % 2 = 0 := by omega
      simp [h3]
    · simp [h2]
  · have h2 : s ≤ i := by
      rcases Nat.lt_or_ge i s with h3 | h3
      · rw [Nat.div_eq_of_lt h3] at h; omega
      · exact h3
    have e : i / s = (i - s) / s + 1 := by
      rw [← Nat.add_div_right _ hs, Nat.sub_add_cancel h2]
    have h3 : (i - s) / s % 2 = 0 := by omega
    simp [h, h2, h3, show i - s < 32 by omega]
theorem rev_eq (x : Nat) (_ : x < 4294967296) : rev x = rv 32 x := by
  apply Nat.eq_of_testBit_eq
  intro i
  rw [rv_bit]
  unfold rev
  rw [Nat.testBit_or, show rev32 x / 65536 = rev32 x >>> 16 from (Nat.shiftRight_eq_div_pow _ 16).symm, Nat.testBit_shiftRight, show rev32 x * 65536 % 4294967296 = (rev32 x <<< 16) % 2 ^ 32 by rw [Nat.shiftLeft_eq], Nat.testBit_mod_two_pow, Nat.testBit_shiftLeft]
  have hz : ∀ j, 32 ≤ j → (rev32 x).testBit j = false := fun j hj => Nat.testBit_lt_two_pow (Nat.lt_of_lt_of_le (rev32_lt x) (Nat.pow_le_pow_right (n := 2) (i := 32) (by omega) hj))
  have hb : ∀ j, j < 32 → (rev32 x).testBit j = x.testBit ((j / 16) * 16 + (15 - j % 16)) := by
    intro j hj
    unfold rev32
    have a8 := fun y k hk => swp_at 8 16711935 y m8 k hk (by omega)
    have a4 := fun y k hk => swp_at 4 252645135 y m4 k hk (by omega)
    have a2 := fun y k hk => swp_at 2 858993459 y m2 k hk (by omega)
    have a1 := fun y k hk => swp_at 1 1431655765 y (fun i hi => by rw [m1 i hi, Nat.div_one]) k hk (by omega)
    have b8 : ∀ y, (swp 8 16711935 y).testBit j = y.testBit (if j / 8 % 2 = 0 then j + 8 else j - 8) := fun y => by rw [a8 y j hj]; split <;> rfl
    rw [b8]
    generalize hk8 : (if j / 8 % 2 = 0 then j + 8 else j - 8) = j8
    have l8 : j8 < 32 := by rw [← hk8]; split <;> omega
    have b4 : ∀ y, (swp 4 252645135 y).testBit j8 = y.testBit (if j8 / 4 % 2 = 0 then j8 + 4 else j8 - 4) := fun y => by rw [a4 y j8 l8]; split <;> rfl
    rw [b4]
    generalize hk4 : (if j8 / 4 % 2 = 0 then j8 + 4 else j8 - 4) = j4
    have l4 : j4 < 32 := by rw [← hk4]; split <;> omega
    have b2 : ∀ y, (swp 2 858993459 y).testBit j4 = y.testBit (if j4 / 2 % 2 = 0 then j4 + 2 else j4 - 2) := fun y => by rw [a2 y j4 l4]; split <;> rfl
    rw [b2]
    generalize hk2 : (if j4 / 2 % 2 = 0 then j4 + 2 else j4 - 2) = j2
    have l2 : j2 < 32 := by rw [← hk2]; split <;> omega
    have b1 : ∀ y, (swp 1 1431655765 y).testBit j2 = y.testBit (if j2 / 1 % 2 = 0 then j2 + 1 else j2 - 1) := fun y => by rw [a1 y j2 l2]; split <;> rfl
    rw [b1]
    congr 1
    have key : ∀ j, j < 32 → (fun j2 => if j2 / 1 % 2 = 0 then j2 + 1 else j2 - 1) ((fun j4 => if j4 / 2 % 2 = 0 then j4 + 2 else j4 - 2) ((fun j8 => if j8 / 4 % 2 = 0 then j8 + 4 else j8 - 4) (if j / 8 % 2 = 0 then j + 8 else j - 8))) = (j / 16) * 16 + (15 - j % 16) := by decide
    have := key j hj
    rw [hk8] at this
    simp only [hk4, hk2] at this
    exact this
  by_cases hi : i < 32
  · by_cases h16 : i < 16
    · rw [hb (16 + i) (by omega)]
      have hn : ¬ 16 ≤ i := by omega
      have e : (16 + i) / 16 * 16 + (15 - (16 + i) % 16) = 32 - 1 - i := by omega
      rw [e]
      simp [hi, hn]
    · rw [hz (16 + i) (by omega), hb (i - 16) (by omega)]
      have e : (i - 16) / 16 * 16 + (15 - (i - 16) % 16) = 32 - 1 - i := by omega
      rw [e]
      simp [hi, show 16 ≤ i by omega]
  · rw [hz (16 + i) (by omega)]
    simp [hi]
end Go.Proofs.YtgjpcjnhggcfdaaDoor.Rvm
