/- Plain numbers: pixels that stand together in one, colours in a table. No function of the program. No conditions. -/
import Derived.Test.YtflmlbdcjjldgaaBase
import Derived.Test.YtflmlbdcjjldgaaLBlk
import Derived.Test.YtflmlbdcjjldgaaPNum
namespace Go.Proofs.Ytflmlbdcjjldgaa.TNum
set_option linter.unusedVariables false
open Go.ChangeShapes Go.WideShapes Go.ChangeAt Go.RowKit Go.Proofs.Ytflmlbdcjjldgaa.Core Go.Proofs.Ytflmlbdcjjldgaa.LBlk Go.Proofs.Ytflmlbdcjjldgaa.PNum

/-- How many pixels stand in one by n colours, as a power of two. -/
def bvI (n : Int) : Nat := if n ≤ 2 then 3 else if n ≤ 4 then 2 else if n ≤ 16 then 1 else 0
def bv (n : Nat) : Nat := bvI (n : Int)
theorem bv_le (n : Int) : bvI n ≤ 3 := by unfold bvI; split <;> (try split) <;> (try split) <;> omega
/-- How many bits a number has. -/
def sz (b : Nat) : Nat := 8 / 2 ^ b
theorem four_b {b : Nat} (h : b ≤ 3) : b = 0 ∨ b = 1 ∨ b = 2 ∨ b = 3 := by omega
theorem num_fits {n j : Nat} (hn : n ≤ 256) (hj : j < n) : j < 2 ^ sz (bv n) := by
  unfold bv bvI sz
  split
  · simp; omega
  · split
    · simp; omega
    · split <;> simp <;> omega
theorem low_le {b k : Nat} (hb : b ≤ 3) (hk : k < 2 ^ b) : k * sz b + sz b ≤ 8 := by
  rcases four_b hb with rfl | rfl | rfl | rfl <;> simp [sz] at * <;> omega
theorem sz_pos {b : Nat} (hb : b ≤ 3) : 1 ≤ sz b ∧ sz b ≤ 8 := by
  rcases four_b hb with rfl | rfl | rfl | rfl <;> decide

/-- The first of n places from i on at which t holds p; i + n if there is none. -/
def fr (t : Nat → Nat) (p : Nat) : Nat → Nat → Nat
  | i, 0 => i
  | i, m + 1 => if t i = p then i else fr t p (i + 1) m
theorem fr_le (t : Nat → Nat) (p : Nat) : ∀ m i, i ≤ fr t p i m ∧ fr t p i m ≤ i + m
  | 0, i => by simp [fr]
  | m + 1, i => by
    have := fr_le t p m (i + 1)
    unfold fr
    split <;> omega
theorem fr_at (t : Nat → Nat) (p : Nat) : ∀ m i, fr t p i m < i + m → t (fr t p i m) = p
  | 0, i => by simp [fr]
  | m + 1, i => by
    have := fr_at t p m (i + 1)
    unfold fr
    split
    · intro _; assumption
    · intro h; exact this (by omega)
theorem fr_none (t : Nat → Nat) (p : Nat) : ∀ m i, fr t p i m = i + m → ∀ j, i ≤ j → j < i + m → t j ≠ p
  | 0, i => by intro _ j h1 h2; omega
  | m + 1, i => by
    have := fr_none t p m (i + 1)
    unfold fr
    split
    · intro h; omega
    · intro h j h1 h2
      by_cases e : j = i
      · subst e; assumption
      · exact this (by omega) j (by omega) (by omega)
theorem fr_some {t : Nat → Nat} {p m i j : Nat} (h1 : i ≤ j) (h2 : j < i + m) (e : t j = p) : fr t p i m < i + m := by
  have := fr_le t p m i
  by_cases h : fr t p i m = i + m
  · exact absurd e (fr_none t p m i h j h1 h2)
  · omega
theorem fr_go {t : Nat → Nat} {p i m : Nat} (h : t i ≠ p) : fr t p i (m + 1) = fr t p (i + 1) m := if_neg h
theorem fr_hit {t : Nat → Nat} {p i m : Nat} (h : t i = p) : fr t p i (m + 1) = i := if_pos h
/-- A colour's number in a table of n. -/
def nm (t : Nat → Nat) (n p : Nat) : Nat := fr t p 0 n

/-- One term: the k-th pixel's number at its place, if the row has that pixel. -/
def tm (f : Nat → Nat) (W s x k : Nat) : Nat := if x + k < W then f k * 2 ^ (s * k) else 0
/-- The first t of them together. -/
def gs (f : Nat → Nat) (W s x : Nat) : Nat → Nat
  | 0 => 0
  | t + 1 => gs f W s x t + tm f W s x t
theorem gs_succ (f : Nat → Nat) (W s x t : Nat) : gs f W s x (t + 1) = gs f W s x t + tm f W s x t := rfl
theorem gs_lt {f : Nat → Nat} {W s x t : Nat} (h : ∀ k, k < t → x + k < W → f k < 2 ^ s) : gs f W s x t < 2 ^ (s * t) := by
  induction t with
  | zero => simp [gs]
  | succ t ih =>
    have i1 := ih fun k hk hx => h k (by omega) hx
    rw [gs_succ]
    have e : 2 ^ (s * (t + 1)) = 2 ^ s * 2 ^ (s * t) := by rw [Nat.mul_succ, Nat.pow_add, Nat.mul_comm]
    have p : 0 < 2 ^ (s * t) := Nat.two_pow_pos _
    have p2 : 0 < 2 ^ s := Nat.two_pow_pos _
    unfold tm
    split
    · rename_i hx
      have h1 := h t (by omega) hx
      have : (f t + 1) * 2 ^ (s * t) ≤ 2 ^ s * 2 ^ (s * t) := Nat.mul_le_mul_right _ h1
      rw [Nat.add_mul] at this
      omega
    · have : 1 * 2 ^ (s * t) ≤ 2 ^ s * 2 ^ (s * t) := Nat.mul_le_mul_right _ p2
      omega
theorem gs_cut {f : Nat → Nat} {W s x t u : Nat} (h : W ≤ x + t) (hu : t ≤ u) : gs f W s x u = gs f W s x t := by
  induction u with
  | zero => have : t = 0 := by omega
            rw [this]
  | succ u ih =>
    by_cases e : t = u + 1
    · rw [e]
    · rw [gs_succ, ih (by omega), tm, if_neg (by omega)]
      omega
theorem gs_congr {f f' : Nat → Nat} {W s x t : Nat} (h : ∀ k, k < t → x + k < W → f k = f' k) : gs f W s x t = gs f' W s x t := by
  induction t with
  | zero => rfl
  | succ t ih =>
    rw [gs_succ, gs_succ, ih fun k hk hx => h k (by omega) hx]
    unfold tm
    split
    · rename_i hx; rw [h t (by omega) hx]
    · rfl
/-- The k-th number again. -/
theorem gs_digit {f : Nat → Nat} {W s x t k : Nat} (h : ∀ k, k < t → x + k < W → f k < 2 ^ s) (hk : k < t) (hx : x + k < W) : gs f W s x t / 2 ^ (s * k) % 2 ^ s = f k := by
  have p : 0 < 2 ^ (s * k) := Nat.two_pow_pos _
  have p2 : 0 < 2 ^ s := Nat.two_pow_pos _
  induction t with
  | zero => omega
  | succ t ih =>
    rw [gs_succ]
    by_cases e : k = t
    · subst e
      have l := gs_lt (W := W) (x := x) (t := k) fun j hj hx => h j (by omega) hx
      rw [tm, if_pos hx, Nat.mul_comm (f k), Nat.add_mul_div_left _ _ p, Nat.div_eq_of_lt l, Nat.zero_add]
      exact Nat.mod_eq_of_lt (h k (by omega) hx)
    · have i1 := ih (fun j hj hx => h j (by omega) hx) (by omega)
      unfold tm
      split
      · have e2 : f t * 2 ^ (s * t) = 2 ^ (s * k) * (2 ^ s * (f t * 2 ^ (s * (t - k - 1)))) := by
          obtain ⟨u, hu⟩ : ∃ u, t = k + 1 + u := ⟨t - k - 1, by omega⟩
          rw [show t - k - 1 = u by omega]
          have : s * t = s * k + (s + s * u) := by rw [hu, Nat.mul_add, Nat.mul_add, Nat.mul_one]; omega
          rw [this, Nat.pow_add, Nat.pow_add, Nat.mul_left_comm, Nat.mul_left_comm (f t)]
        rw [e2, Nat.add_mul_div_left _ _ p, Nat.add_mul_mod_self_left]
        exact i1
      · rw [Nat.add_zero]; exact i1
end Go.Proofs.Ytflmlbdcjjldgaa.TNum
