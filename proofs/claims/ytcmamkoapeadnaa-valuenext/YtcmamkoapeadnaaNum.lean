/- Plain facts: a symbol's bits and its first number, by arithmetic; each number has one symbol. No conditions. -/
import Derived.Test.YtcmamkoapeadnaaBase
import Derived.Laws.MathBits
namespace Go.Proofs.Ytcmamkoapeadnaa.Num
open Go.ChangeShapes Go.WideShapes Go.ChangeAt Go.RowKit

/-- How many bits stand behind a symbol. -/
def exn (s : Nat) : Nat := if s < 4 then 0 else s / 2 - 1
/-- A symbol's first number. -/
def frs (s : Nat) : Nat := if s < 4 then s + 1 else (2 + s % 2) * 2 ^ (s / 2 - 1) + 1

theorem exn_le (s : Nat) (h : s < 40) : exn s ≤ 18 := by unfold exn; split <;> omega
theorem pow_exn (s : Nat) (h : s < 40) : 1 ≤ 2 ^ exn s ∧ 2 ^ exn s ≤ 262144 :=
  ⟨Nat.pow_pos (by omega), Nat.pow_le_pow_right (j := 18) (by omega) (exn_le s h)⟩
theorem pow_exnI (s : Nat) (h : s < 40) : (1 : Int) ≤ 2 ^ exn s ∧ (2 : Int) ^ exn s ≤ 262144 := by
  have := pow_exn s h
  have e : ((2 ^ exn s : Nat) : Int) = (2 : Int) ^ exn s := by simp
  omega
theorem frs_next : ∀ s, s < 40 → frs (s + 1) = frs s + 2 ^ exn s := by decide +kernel
theorem frs_up : ∀ t, t < 41 → ∀ s, s < t → frs (s + 1) ≤ frs t := by decide +kernel
theorem frs_pos (s : Nat) : 1 ≤ frs s := by unfold frs; split <;> omega
theorem frs_last : frs 40 = 1048577 := by decide
theorem frs_le (s : Nat) (h : s < 40) : frs s + 2 ^ exn s ≤ 1048577 := by
  rw [← frs_next s h, ← frs_last]
  exact frs_up 40 (by omega) s h
theorem frs_lt (s t x y : Nat) (hs : s < 40) (ht : t < 40) (hx : x < 2 ^ exn s) (h : s < t) : frs s + x < frs t + y := by
  have h1 := frs_up t (by omega) s h
  have h2 := frs_next s hs
  omega
theorem frs_one (s t x y : Nat) (hs : s < 40) (ht : t < 40) (hx : x < 2 ^ exn s) (hy : y < 2 ^ exn t) (h : frs s + x = frs t + y) : s = t ∧ x = y := by
  rcases Nat.lt_trichotomy s t with l | l | l
  · have := frs_lt s t x y hs ht hx l; omega
  · subst l; exact ⟨rfl, by omega⟩
  · have := frs_lt t s y x ht hs hy l; omega
theorem frs_less (s t x y : Nat) (hs : s < 40) (ht : t < 40) (hy : y < 2 ^ exn t) (h : frs s + x < frs t + y) : s < t ∨ (s = t ∧ x < y) := by
  rcases Nat.lt_trichotomy s t with l | l | l
  · exact .inl l
  · subst l; exact .inr ⟨rfl, by omega⟩
  · have := frs_lt t s y x ht hs hy l; omega

/-- s and x are the symbol and the bits of n. -/
structure Is (n s x : Nat) : Prop where
  sym : s < 40
  low : x < 2 ^ exn s
  num : frs s + x = n

theorem is_small (n : Nat) (h0 : 1 ≤ n) (h1 : n ≤ 4) : Is n (n - 1) 0 ∧ exn (n - 1) = 0 := by
  have e : exn (n - 1) = 0 := if_pos (by omega)
  have f : frs (n - 1) = n - 1 + 1 := if_pos (by omega)
  exact ⟨⟨by omega, by rw [e]; decide, by omega⟩, e⟩
theorem is_big (a k : Nat) (h4 : 4 ≤ a) (ha : a < 1048576) (h1 : 2 ^ k ≤ a) (h2 : a < 2 ^ (k + 1)) :
    Is (a + 1) (2 * k + a / 2 ^ (k - 1) % 2) (a % 2 ^ (k - 1)) ∧ exn (2 * k + a / 2 ^ (k - 1) % 2) = k - 1 ∧ 2 ≤ k ∧ k ≤ 19 := by
  have k2 : 2 ≤ k := by
    rcases Nat.lt_or_ge k 2 with l | l
    · have := Nat.pow_le_pow_right (n := 2) (by omega) (show k + 1 ≤ 2 by omega); omega
    · exact l
  have k19 : k ≤ 19 := by
    rcases Nat.lt_or_ge 19 k with l | l
    · have := Nat.pow_le_pow_right (n := 2) (by omega) (show 20 ≤ k by omega); omega
    · exact l
  obtain ⟨j, rfl⟩ : ∃ j, k = j + 1 := ⟨k - 1, by omega⟩
  have e1 : 2 ^ (j + 1) = 2 ^ j * 2 := Nat.pow_succ ..
  have e2 : 2 ^ (j + 1 + 1) = 2 ^ j * 2 * 2 := by rw [Nat.pow_succ, Nat.pow_succ]
  simp only [Nat.add_sub_cancel]
  have p : 0 < 2 ^ j := Nat.pow_pos (by omega)
  have q1 : 2 ≤ a / 2 ^ j := (Nat.le_div_iff_mul_le p).2 (by omega)
  have q2 : a / 2 ^ j < 4 := (Nat.div_lt_iff_lt_mul p).2 (by omega)
  have m := Nat.mod_lt a p
  have d := Nat.div_add_mod a (2 ^ j)
  have s2 : (2 * (j + 1) + a / 2 ^ j % 2) / 2 - 1 = j := by omega
  have s3 : (2 * (j + 1) + a / 2 ^ j % 2) % 2 = a / 2 ^ j % 2 := by omega
  have ee : exn (2 * (j + 1) + a / 2 ^ j % 2) = j := by unfold exn; rw [if_neg (by omega), s2]
  refine ⟨⟨by omega, by rw [ee]; exact m, ?_⟩, ee, k2, k19⟩
  unfold frs
  rw [if_neg (by omega), s2, s3, show 2 + a / 2 ^ j % 2 = a / 2 ^ j by omega, Nat.mul_comm]
  omega

theorem bitLen_gt (v n : Nat) : n < bitLen v ↔ 2 ^ n ≤ v := by
  obtain ⟨h1, h2⟩ := bitLen_spec v
  constructor
  · intro h
    have h0 : v ≠ 0 := fun e => by subst e; simp [bitLen] at h
    exact Nat.le_trans (Nat.pow_le_pow_right (by omega) (by omega)) (h2 h0)
  · intro h
    exact (Nat.pow_lt_pow_iff_right (a := 2) (by omega)).1 (Nat.lt_of_le_of_lt h h1)
theorem bitLen_at (a : Nat) (h4 : 4 ≤ a) : ∃ k, bitLen a = k + 1 ∧ 2 ^ k ≤ a ∧ a < 2 ^ (k + 1) := by
  have g := (bitLen_gt a 2).2 (by omega)
  obtain ⟨h1, h2⟩ := bitLen_spec a
  have h3 := h2 (by omega)
  refine ⟨bitLen a - 1, by omega, h3, ?_⟩
  rw [show bitLen a - 1 + 1 = bitLen a by omega]; exact h1

/-- How many bits any number has behind it, as a symbol. -/
def exV (s : Int) : Int := if 4 ≤ s ∧ s ≤ 39 then s / 2 - 1 else 0
theorem exV_nat (s : Nat) (h : s < 40) : exV (s : Int) = (exn s : Nat) := by
  unfold exV exn
  by_cases c : s < 4
  · rw [if_neg (by omega), if_pos c]; rfl
  · rw [if_pos (by omega), if_neg c]; omega
/-- The number of any symbol and bits. -/
def joV (s x : Int) : Int := if 0 ≤ s ∧ s ≤ 39 ∧ x < ((2 ^ exn s.toNat : Nat) : Int) then ((frs s.toNat : Nat) : Int) + x else 0
theorem joV_out (s x : Int) (h : s < 0 ∨ 39 < s) : joV s x = 0 := if_neg (by omega)
theorem joV_much (s x : Nat) (h : 2 ^ exn s ≤ x) : joV s x = 0 := if_neg (by rw [Int.toNat_natCast]; omega)
theorem joV_in (s x : Nat) (hs : s < 40) (h : x < 2 ^ exn s) : joV s x = ((frs s + x : Nat) : Int) := by
  unfold joV; rw [if_pos (by rw [Int.toNat_natCast]; omega), Int.toNat_natCast]; omega
end Go.Proofs.Ytcmamkoapeadnaa.Num
