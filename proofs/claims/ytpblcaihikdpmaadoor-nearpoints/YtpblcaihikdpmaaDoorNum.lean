/- Plain numbers: the points of near codes, what a code's distance is, which code a distance has. No conditions. -/
import Derived.Test.YtpblcaihikdpmaaDoorBase
namespace Go.Proofs.YtpblcaihikdpmaaDoor.Num

def tabL : List Int := [0, 1, 1, 0, 1, 1, -1, 1, 0, 2, 2, 0, 1, 2, -1, 2, 2, 1, -2, 1, 2, 2, -2, 2, 0, 3, 3, 0, 1, 3, -1, 3, 3, 1, -3, 1, 2, 3, -2, 3, 3, 2, -3, 2, 0, 4, 4, 0, 1, 4, -1, 4, 4, 1, -4, 1, 3, 3, -3, 3, 2, 4, -2, 4, 4, 2, -4, 2, 0, 5, 3, 4, -3, 4, 4, 3, -4, 3, 5, 0, 1, 5, -1, 5, 5, 1, -5, 1, 2, 5, -2, 5, 5, 2, -5, 2, 4, 4, -4, 4, 3, 5, -3, 5, 5, 3, -5, 3, 0, 6, 6, 0, 1, 6, -1, 6, 6, 1, -6, 1, 2, 6, -2, 6, 6, 2, -6, 2, 4, 5, -4, 5, 5, 4, -5, 4, 3, 6, -3, 6, 6, 3, -6, 3, 0, 7, 7, 0, 1, 7, -1, 7, 5, 5, -5, 5, 7, 1, -7, 1, 4, 6, -4, 6, 6, 4, -6, 4, 2, 7, -2, 7, 7, 2, -7, 2, 3, 7, -3, 7, 7, 3, -7, 3, 5, 6, -5, 6, 6, 5, -6, 5, 8, 0, 4, 7, -4, 7, 7, 4, -7, 4, 8, 1, 8, 2, 6, 6, -6, 6, 8, 3, 5, 7, -5, 7, 7, 5, -7, 5, 8, 4, 6, 7, -6, 7, 7, 6, -7, 6, 8, 5, 7, 7, -7, 7, 8, 6, 8, 7]
def T (j : Nat) : Int := tabL.getD j 0
/-- The point of code m + 1. -/
def px (m : Nat) : Int := T (2 * m)
def py (m : Nat) : Int := T (2 * m + 1)
def cut (z : Int) : Int := if z < 1 then 1 else z
def dd (m : Nat) (w : Int) : Int := cut (px m + py m * w)
def X (c : Int) : Int := if 1 ≤ c ∧ c ≤ 120 then px (c.toNat - 1) else 0
def Y (c : Int) : Int := if 1 ≤ c ∧ c ≤ 120 then py (c.toNat - 1) else 0
def B (c : Int) : Bool := decide (1 ≤ c ∧ c ≤ 120)
def wd (w : Int) : Bool := decide (1 ≤ w ∧ w ≤ 16384)
def D (c w : Int) : Int := if 1 ≤ c ∧ c ≤ 1048576 ∧ wd w = true then (if 120 < c then c - 120 else dd (c.toNat - 1) w) else 0
def K (d w : Int) : Int := if 1 ≤ d ∧ d ≤ 1048456 ∧ wd w = true then
  (match (List.range 120).find? (fun m => dd m w == d) with | some m => (m : Int) + 1 | none => d + 120) else 0

theorem X_in (m : Nat) (h : m < 120) : X ((m : Int) + 1) = px m := by unfold X; rw [if_pos (by omega)]; congr 1
theorem Y_in (m : Nat) (h : m < 120) : Y ((m : Int) + 1) = py m := by unfold Y; rw [if_pos (by omega)]; congr 1
theorem B_in (m : Nat) (h : m < 120) : B ((m : Int) + 1) = true := by unfold B; simp; omega
theorem X_out {c : Int} (h : c < 1 ∨ 120 < c) : X c = 0 := by unfold X; rw [if_neg (by omega)]
theorem Y_out {c : Int} (h : c < 1 ∨ 120 < c) : Y c = 0 := by unfold Y; rw [if_neg (by omega)]
theorem B_out {c : Int} (h : c < 1 ∨ 120 < c) : B c = false := by unfold B; simp; omega
theorem wd_in {w : Int} (h : 1 ≤ w ∧ w ≤ 16384) : wd w = true := by unfold wd; simpa using h
theorem wd_out {w : Int} (h : ¬ (1 ≤ w ∧ w ≤ 16384)) : wd w = false := by unfold wd; simpa using h
theorem wd_is {w : Int} (h : wd w = true) : 1 ≤ w ∧ w ≤ 16384 := by unfold wd at h; simpa using h
theorem D_near (m : Nat) (w : Int) (h : m < 120) (hw : wd w = true) : D ((m : Int) + 1) w = dd m w := by
  unfold D; rw [if_pos ⟨by omega, by omega, hw⟩, if_neg (by omega)]; congr 1
theorem D_far {c w : Int} (h : 120 < c) (h2 : c ≤ 1048576) (hw : wd w = true) : D c w = c - 120 := by
  unfold D; rw [if_pos ⟨by omega, by omega, hw⟩, if_pos h]
theorem D_out {c w : Int} (h : ¬ (1 ≤ c ∧ c ≤ 1048576 ∧ wd w = true)) : D c w = 0 := by unfold D; rw [if_neg h]
theorem K_out {d w : Int} (h : ¬ (1 ≤ d ∧ d ≤ 1048456 ∧ wd w = true)) : K d w = 0 := by unfold K; rw [if_neg h]
theorem K_at {d w : Int} (k : Nat) (h : 1 ≤ d ∧ d ≤ 1048456 ∧ wd w = true) (hk : k < 120) (hn : ∀ m, m < k → dd m w ≠ d) (he : dd k w = d) : K d w = (k : Int) + 1 := by
  unfold K
  have e : (List.range 120).find? (fun m => dd m w == d) = some k := List.find?_range_eq_some.2 ⟨by simp [he], by simpa using hk, fun j hj => by simpa using hn j hj⟩
  rw [if_pos h, e]
theorem K_none {d w : Int} (h : 1 ≤ d ∧ d ≤ 1048456 ∧ wd w = true) (hn : ∀ m, m < 120 → dd m w ≠ d) : K d w = d + 120 := by
  unfold K
  rw [if_pos h, List.find?_eq_none.2 (fun x hx => by simpa using hn x (by simpa using hx))]
/-- Either a near code has the distance, and none ahead of it, or none has. -/
theorem least (d w : Int) : (∃ k, k < 120 ∧ (∀ m, m < k → dd m w ≠ d) ∧ dd k w = d) ∨ ∀ m, m < 120 → dd m w ≠ d := by
  cases h : (List.range 120).find? (fun m => dd m w == d) with
  | none => exact .inr fun m hm => by simpa using List.find?_eq_none.1 h m (by simpa using hm)
  | some k =>
    obtain ⟨h1, h2, h3⟩ := List.find?_range_eq_some.1 h
    exact .inl ⟨k, by simpa using h2, fun m hm => by simpa using h3 m hm, by simpa using h1⟩

theorem T_small : ∀ j, j < 240 → -7 ≤ T j ∧ T j ≤ 8 := by decide +kernel
theorem tabL_len : tabL.length = 240 := by decide +kernel
theorem T_all (j : Nat) : -7 ≤ T j ∧ T j ≤ 8 := by
  by_cases h : j < 240
  · exact T_small j h
  · have e : T j = 0 := by
      unfold T
      rw [List.getD_eq_getElem?_getD, List.getElem?_eq_none (by rw [tabL_len]; omega), Option.getD_none]
    omega
theorem mul_all {y w : Int} (h0 : -7 ≤ y ∧ y ≤ 8) (hw : 1 ≤ w ∧ w ≤ 16384) : -114688 ≤ y * w ∧ y * w ≤ 131072 := by
  have h1 : y * w ≤ 8 * w := Int.mul_le_mul_of_nonneg_right h0.2 (by omega)
  have h2 : (-7) * w ≤ y * w := Int.mul_le_mul_of_nonneg_right h0.1 (by omega)
  omega
theorem py_small : ∀ m, m < 120 → 0 ≤ py m ∧ py m ≤ 7 ∧ (0 < py m ∨ 0 < px m) := by decide +kernel
theorem px_small (m : Nat) (h : m < 120) : -7 ≤ px m ∧ px m ≤ 8 := T_small _ (by omega)
theorem apart : ∀ i, i < 120 → ∀ k, k < 120 → px i = px k → py i = py k → i = k := by decide +kernel
theorem mul_bound {y w : Int} (h0 : 0 ≤ y) (h7 : y ≤ 7) (hw : 1 ≤ w ∧ w ≤ 16384) : 0 ≤ y * w ∧ y * w ≤ 114688 := by
  refine ⟨Int.mul_nonneg h0 (by omega), ?_⟩
  have h1 : y * w ≤ 7 * w := Int.mul_le_mul_of_nonneg_right h7 (by omega)
  omega
theorem dd_bound (m : Nat) (w : Int) (h : m < 120) (hw : 1 ≤ w ∧ w ≤ 16384) : 1 ≤ dd m w ∧ dd m w ≤ 114696 := by
  have h1 := py_small m h
  have h2 := px_small m h
  have h3 := mul_bound h1.1 h1.2.1 hw
  unfold dd cut
  split <;> omega
/-- In rows of 16 and more nothing is cut. -/
theorem dd_wide (m : Nat) (w : Int) (h : m < 120) (hw : 16 ≤ w) : dd m w = px m + py m * w := by
  have h1 := py_small m h
  have h2 := px_small m h
  unfold dd cut
  rw [if_neg]
  rcases h1.2.2 with h3 | h3
  · have : 1 * w ≤ py m * w := Int.mul_le_mul_of_nonneg_right (by omega) (by omega)
    omega
  · have : 0 ≤ py m * w := Int.mul_nonneg h1.1 (by omega)
    omega
theorem dd_inj (i k : Nat) (w : Int) (hi : i < 120) (hk : k < 120) (hw : 16 ≤ w) (h : dd i w = dd k w) : i = k := by
  rw [dd_wide i w hi hw, dd_wide k w hk hw] at h
  have a1 := px_small i hi
  have a2 := px_small k hk
  have e : (py i - py k) * w = px k - px i := by rw [Int.sub_mul]; omega
  have h0 : py i = py k := by
    rcases Int.lt_trichotomy (py i) (py k) with hl | hl | hl
    · have : (py i - py k) * w ≤ (-1) * w := Int.mul_le_mul_of_nonneg_right (by omega) (by omega)
      omega
    · exact hl
    · have : 1 * w ≤ (py i - py k) * w := Int.mul_le_mul_of_nonneg_right (by omega) (by omega)
      omega
  refine apart i hi k hk ?_ h0
  rw [h0] at e
  simp at e
  omega
theorem dd_top (m : Nat) (w : Int) (h : m < 120) (hw : 16 ≤ w) : dd m w ≠ 8 * w + 9 := by
  have h1 := py_small m h
  have h2 := px_small m h
  rw [dd_wide m w h hw]
  have : py m * w ≤ 7 * w := Int.mul_le_mul_of_nonneg_right h1.2.1 (by omega)
  omega
end Go.Proofs.YtpblcaihikdpmaaDoor.Num
