/-
  Contracts: value.Split answers the one symbol and bits of a number. Conditions: none on the number.
  Plain numbers: the points of near codes, what a code's distance is, which code a distance has. No conditions.
  Plain numbers: a pixel's four, and what two and three pixels come to. No conditions.
  Plain numbers: how many symbols each of the five codes has; what each code tells of a step. No function of the program. No conditions.
-/
import Derived.Test.YtgjpcjnhggcfdaaGreatDoorC01
import Derived.OwnWalk
namespace Go.Proofs.YtgjpcjnhggcfdaaGreatDoor.VSpt
open Go.ChangeShapes Go.WideShapes Go.ChangeAt Go.RowKit Go.Proofs.YtgjpcjnhggcfdaaGreatDoor.Core Go.Proofs.YtgjpcjnhggcfdaaGreatDoor.VNum Go.Proofs.YtgjpcjnhggcfdaaGreatDoor.VVal Go.Proofs.YtgjpcjnhggcfdaaGreatDoor.VJoi

/-- What Split answers. -/
def told (s k x : Int) : Ending := .returned (.tuple #[.int .i64 s, .int .i64 k, .int .u32 x])
theorem told_eq {s k x t j y : Int} (h1 : s = t) (h2 : k = j) (h3 : x = y) : Ending.returned (.tuple #[.int .i64 s, .int .i64 k, .int .u32 x]) = told t j y := by rw [h1, h2, h3]; rfl

set_option maxHeartbeats 1000000 in
theorem split_out (n : Int) (w : World) (h : n < 1 ∨ 1048576 < n) :
    Calls Tryz.prog 73 #[.int .i64 n] w fun e w' => e = told 0 0 0 ∧ w' = w := by
  rcases h with h | h
  · go_enter Tryz.func73, Tryz.ntmps73
    go_wp2
    go_ret3
    exact ⟨rfl, rfl⟩
  · have h' : 1 ≤ n := by omega
    go_enter Tryz.func73, Tryz.ntmps73
    go_wp2
    go_ret3
    exact ⟨rfl, rfl⟩
set_option maxHeartbeats 1000000 in
theorem split_small (n : Nat) (w : World) (h0 : 1 ≤ n) (h1 : n ≤ 4) :
    Calls Tryz.prog 73 #[.int .i64 n] w fun e w' => e = told (n - 1 : Nat) 0 0 ∧ w' = w := by
  have h0' : 1 ≤ (n : Int) := by omega
  have h1' : (n : Int) ≤ 4 := by omega
  have h2' : (n : Int) ≤ 1048576 := by omega
  go_enter Tryz.func73, Tryz.ntmps73
  go_wp2
  go_ret3
  exact ⟨told_eq (by omega) rfl rfl, rfl⟩
theorem mask_at (a j : Nat) (ha : a < 1048576) (hj : j ≤ 18) : bits .and .u32 (a : Int) (2 ^ j - 1) = ((a % 2 ^ j : Nat) : Int) := by
  have p : 1 ≤ 2 ^ j := Nat.pow_pos (by omega)
  have q : 2 ^ j ≤ 2 ^ 18 := Nat.pow_le_pow_right (by omega) hj
  have e : (2 : Int) ^ j - 1 = ((2 ^ j - 1 : Nat) : Int) := by
    have : (2 : Int) ^ j = ((2 ^ j : Nat) : Int) := by simp
    omega
  rw [e, u32_and_nat _ _ (by omega) (by omega), Nat.and_two_pow_sub_one_eq_mod]
theorem second_at (a j : Nat) (ha : a < 1048576) : bits .and .u32 ((a : Int) / 2 ^ j) 1 = ((a / 2 ^ j % 2 : Nat) : Int) := by
  have e : (a : Int) / 2 ^ j = ((a / 2 ^ j : Nat) : Int) := by simp
  have l : a / 2 ^ j ≤ a := Nat.div_le_self ..
  rw [e, show (1 : Int) = ((1 : Nat) : Int) from rfl, u32_and_nat _ _ (by omega) (by omega), nat_mask1]
set_option maxHeartbeats 1000000 in
theorem split_big (n a k : Nat) (w : World) (hn : n = a + 1) (h4 : 4 ≤ a) (ha : a < 1048576) (hb : bitLen a = k + 1) (k2 : 2 ≤ k) (k19 : k ≤ 19) :
    Calls Tryz.prog 73 #[.int .i64 n] w fun e w' => e = told (2 * k + a / 2 ^ (k - 1) % 2 : Nat) (k - 1 : Nat) (a % 2 ^ (k - 1) : Nat) ∧ ∃ m, w' = w.drewN m := by
  subst hn
  obtain ⟨j, rfl⟩ : ∃ j, k = j + 1 := ⟨k - 1, by omega⟩
  simp only [Nat.add_sub_cancel]
  have HI := hide (high14 a (j + 1) w ha hb)
  have j18 : j ≤ 18 := by omega
  have M := mask_at a j ha j18
  have X := second_at a j ha
  have p1 : (1 : Int) ≤ 2 ^ j := by have : 1 ≤ 2 ^ j := Nat.pow_pos (by omega); have e : (2 : Int) ^ j = ((2 ^ j : Nat) : Int) := by simp
                                    omega
  have p2 : (2 : Int) ^ j ≤ 262144 := by
    have q : 2 ^ j ≤ 2 ^ 18 := Nat.pow_le_pow_right (by omega) j18
    have e : (2 : Int) ^ j = ((2 ^ j : Nat) : Int) := by simp
    omega
  have r : a / 2 ^ j % 2 < 2 := Nat.mod_lt _ (by omega)
  have r2 : a % 2 ^ j < 262144 := by
    have := Nat.mod_lt a (show 0 < 2 ^ j from Nat.pow_pos (by omega))
    have q : 2 ^ j ≤ 2 ^ 18 := Nat.pow_le_pow_right (by omega) j18
    omega
  generalize a / 2 ^ j % 2 = d at *
  generalize a % 2 ^ j = x at *
  clear hb k2 k19
  go_enter Tryz.func73, Tryz.ntmps73
  go_wp2_with fail
  refine (unhide HI).mono ?_
  rintro e w' ⟨rfl, rfl⟩
  go_wp2
  go_quiet (fail)
  go_wp2
  go_ret3
  refine ⟨told_eq ?_ ?_ ?_, _, rfl⟩
  all_goals first | rfl | omega

/-- A call that hands back the symbol, how many bits, and the bits of n. -/
structure Gv (n : Nat) (e : Ending) (w w' : World) : Prop where
  ex : ∃ s x : Nat, Is n s x ∧ e = .returned (.tuple #[.int .i64 s, .int .i64 (exn s : Nat), .int .u32 x]) ∧ ∃ m, w' = w.drewN m

theorem split12 (n : Nat) (w : World) (h0 : 1 ≤ n) (h1 : n ≤ 1048576) :
    Calls Tryz.prog 73 #[.int .i64 n] w fun e w' => Gv n e w w' := by
  by_cases h : n ≤ 4
  · refine (split_small n w h0 h).mono ?_
    rintro e w' ⟨rfl, rfl⟩
    obtain ⟨i, z⟩ := is_small n h0 h
    exact ⟨n - 1, 0, i, by rw [z]; rfl, 0, rfl⟩
  · obtain ⟨k, hb, k1, k2⟩ := bitLen_at (n - 1) (by omega)
    obtain ⟨i, z, g2, g19⟩ := is_big (n - 1) k (by omega) (by omega) k1 k2
    refine (split_big n (n - 1) k w (by omega) (by omega) (by omega) hb g2 g19).mono ?_
    rintro e w' ⟨rfl, m, rfl⟩
    rw [show n - 1 + 1 = n by omega] at i
    exact ⟨_, _, i, by rw [z]; rfl, m, rfl⟩
theorem split5 (w : World) :
    Calls Tryz.prog 73 #[.int .i64 5] w fun e w' => e = .returned (.tuple #[.int .i64 4, .int .i64 1, .int .u32 0]) ∧ ∃ m, w' = w.drewN m := by
  refine (split12 5 w (by omega) (by omega)).mono ?_
  rintro e w' ⟨s, x, i, rfl, m, rfl⟩
  obtain ⟨rfl, rfl⟩ := frs_one s 4 x 0 i.sym (by omega) i.low (by decide) (i.num.trans (by decide))
  exact ⟨rfl, m, rfl⟩
theorem below_drew {B : Nat} {a w : World} (h : Below B a w) (n : Nat) : Below B a (w.drewN n) := ⟨h.os, h.tape, h.output, h.size, h.block⟩
theorem split_next (s l : Nat) (w : World) (hs : s < 39) (hl : frs (s + 1) = l + 1) :
    Calls Tryz.prog 73 #[.int .i64 ((l : Int) + 1)] w fun e w' => e = .returned (.tuple #[.int .i64 ((s : Int) + 1), .int .i64 (exn (s + 1) : Nat), .int .u32 0]) ∧ ∃ m, w' = w.drewN m := by
  have b := frs_le (s + 1) (by omega)
  have b2 : frs (s + 1) ≤ 1048577 := Nat.le_trans (Nat.le_add_right _ _) b
  have p := (pow_exn (s + 1) (by omega)).1
  have b3 : l + 1 ≤ 1048576 := by omega
  refine (split12 (l + 1) w (by omega) b3).mono ?_
  rintro e w' ⟨t, x, i, rfl, m, rfl⟩
  obtain ⟨rfl, rfl⟩ := frs_one t (s + 1) x 0 i.sym (by omega) i.low p (i.num.trans (by omega))
  exact ⟨rfl, m, rfl⟩
theorem join_last (s l : Nat) (hs : s < 39) (hl : frs (s + 1) = l + 1) : joV (s : Int) (2 ^ exn s - 1) = (l : Int) := by
  have n := frs_next s (by omega)
  have p := (pow_exn s (by omega)).1
  have e : (2 : Int) ^ exn s - 1 = ((2 ^ exn s - 1 : Nat) : Int) := by
    have : (2 : Int) ^ exn s = ((2 ^ exn s : Nat) : Int) := by simp
    omega
  rw [e, joV_in s _ (by omega) (by omega)]
  omega
theorem join_first (s l : Nat) (hs : s < 39) (hl : frs (s + 1) = l + 1) : joV ((s : Int) + 1) 0 = (l : Int) + 1 := by
  have p := (pow_exn (s + 1) (by omega)).1
  have h := joV_in (s + 1) 0 (by omega) p
  rw [Nat.add_zero, hl] at h
  exact h
theorem join_over (s : Nat) : joV (s : Int) (2 ^ exn s) = 0 := by
  have : (2 : Int) ^ exn s = ((2 ^ exn s : Nat) : Int) := by simp
  rw [this]; exact joV_much s _ (Nat.le_refl _)
end Go.Proofs.YtgjpcjnhggcfdaaGreatDoor.VSpt

namespace Go.Proofs.YtgjpcjnhggcfdaaGreatDoor.NNum

def tabL : List Int := [0, 1, 1, 0, 1, 1, -1, 1, 0, 2, 2, 0, 1, 2, -1, 2, 2, 1, -2, 1, 2, 2, -2, 2, 0, 3, 3, 0, 1, 3, -1, 3, 3, 1, -3, 1, 2, 3, -2, 3, 3, 2, -3, 2, 0, 4, 4, 0, 1, 4, -1, 4, 4, 1, -4, 1, 3, 3, -3, 3, 2, 4, -2, 4, 4, 2, -4, 2, 0, 5, 3, 4, -3, 4, 4, 3, -4, 3, 5, 0, 1, 5, -1, 5, 5, 1, -5, 1, 2, 5, -2, 5, 5, 2, -5, 2, 4, 4, -4, 4, 3, 5, -3, 5, 5, 3, -5, 3, 0, 6, 6, 0, 1, 6, -1, 6, 6, 1, -6, 1, 2, 6, -2, 6, 6, 2, -6, 2, 4, 5, -4, 5, 5, 4, -5, 4, 3, 6, -3, 6, 6, 3, -6, 3, 0, 7, 7, 0, 1, 7, -1, 7, 5, 5, -5, 5, 7, 1, -7, 1, 4, 6, -4, 6, 6, 4, -6, 4, 2, 7, -2, 7, 7, 2, -7, 2, 3, 7, -3, 7, 7, 3, -7, 3, 5, 6, -5, 6, 6, 5, -6, 5, 8, 0, 4, 7, -4, 7, 7, 4, -7, 4, 8, 1, 8, 2, 6, 6, -6, 6, 8, 3, 5, 7, -5, 7, 7, 5, -7, 5, 8, 4, 6, 7, -6, 7, 7, 6, -7, 6, 8, 5, 7, 7, -7, 7, 8, 6, 8, 7]
def T (j : Nat) : Int := tabL.getD j 0
/-- The point of code m + 1. -/
def px (m : Nat) : Int := T (2 * m)
def py (m : Nat) : Int := T (2 * m + 1)
def cut (z : Int) : Int := if z < 1 then 1 else z
def dd (m : Nat) (w : Int) : Int := cut (px m + py m * w)
def X (c : Int) : Int := if 1 ≤ c ∧ c ≤ 120 then px (c.toNat - 1) else 0
def Y (c : Int) : Int := if 1 ≤ c ∧ c ≤ 120 then py (c.toNat - 1) else 0
def B (c : Int) : Bool := decide (1 ≤ c ∧ c ≤ 120)
def wd (w : Int) : Bool := decide (1 ≤ w ∧ w ≤ 16384)
def D (c w : Int) : Int := if 1 ≤ c ∧ c ≤ 1048576 ∧ wd w = true then (if 120 < c then c - 120 else dd (c.toNat - 1) w) else 0
def K (d w : Int) : Int := if 1 ≤ d ∧ d ≤ 1048456 ∧ wd w = true then
  (match (List.range 120).find? (fun m => dd m w == d) with | some m => (m : Int) + 1 | none => d + 120) else 0

theorem X_in (m : Nat) (h : m < 120) : X ((m : Int) + 1) = px m := by unfold X; rw [if_pos (by omega)]; congr 1
theorem Y_in (m : Nat) (h : m < 120) : Y ((m : Int) + 1) = py m := by unfold Y; rw [if_pos (by omega)]; congr 1
theorem B_in (m : Nat) (h : m < 120) : B ((m : Int) + 1) = true := by unfold B; simp; omega
theorem X_out {c : Int} (h : c < 1 ∨ 120 < c) : X c = 0 := by unfold X; rw [if_neg (by omega)]
theorem Y_out {c : Int} (h : c < 1 ∨ 120 < c) : Y c = 0 := by unfold Y; rw [if_neg (by omega)]
theorem B_out {c : Int} (h : c < 1 ∨ 120 < c) : B c = false := by unfold B; simp; omega
theorem wd_in {w : Int} (h : 1 ≤ w ∧ w ≤ 16384) : wd w = true := by unfold wd; simpa using h
theorem wd_out {w : Int} (h : ¬ (1 ≤ w ∧ w ≤ 16384)) : wd w = false := by unfold wd; simpa using h
theorem wd_is {w : Int} (h : wd w = true) : 1 ≤ w ∧ w ≤ 16384 := by unfold wd at h; simpa using h
theorem D_near (m : Nat) (w : Int) (h : m < 120) (hw : wd w = true) : D ((m : Int) + 1) w = dd m w := by
  unfold D; rw [if_pos ⟨by omega, by omega, hw⟩, if_neg (by omega)]; congr 1
theorem D_far {c w : Int} (h : 120 < c) (h2 : c ≤ 1048576) (hw : wd w = true) : D c w = c - 120 := by
  unfold D; rw [if_pos ⟨by omega, by omega, hw⟩, if_pos h]
theorem D_out {c w : Int} (h : ¬ (1 ≤ c ∧ c ≤ 1048576 ∧ wd w = true)) : D c w = 0 := by unfold D; rw [if_neg h]
theorem K_out {d w : Int} (h : ¬ (1 ≤ d ∧ d ≤ 1048456 ∧ wd w = true)) : K d w = 0 := by unfold K; rw [if_neg h]
theorem K_at {d w : Int} (k : Nat) (h : 1 ≤ d ∧ d ≤ 1048456 ∧ wd w = true) (hk : k < 120) (hn : ∀ m, m < k → dd m w ≠ d) (he : dd k w = d) : K d w = (k : Int) + 1 := by
  unfold K
  have e : (List.range 120).find? (fun m => dd m w == d) = some k := List.find?_range_eq_some.2 ⟨by simp [he], by simpa using hk, fun j hj => by simpa using hn j hj⟩
  rw [if_pos h, e]
theorem K_none {d w : Int} (h : 1 ≤ d ∧ d ≤ 1048456 ∧ wd w = true) (hn : ∀ m, m < 120 → dd m w ≠ d) : K d w = d + 120 := by
  unfold K
  rw [if_pos h, List.find?_eq_none.2 (fun x hx => by simpa using hn x (by simpa using hx))]
/-- Either a near code has the distance, and none ahead of it, or none has. -/
theorem least (d w : Int) : (∃ k, k < 120 ∧ (∀ m, m < k → dd m w ≠ d) ∧ dd k w = d) ∨ ∀ m, m < 120 → dd m w ≠ d := by
  cases h : (List.range 120).find? (fun m => dd m w == d) with
  | none => exact .inr fun m hm => by simpa using List.find?_eq_none.1 h m (by simpa using hm)
  | some k =>
    obtain ⟨h1, h2, h3⟩ := List.find?_range_eq_some.1 h
    exact .inl ⟨k, by simpa using h2, fun m hm => by simpa using h3 m hm, by simpa using h1⟩

theorem T_small : ∀ j, j < 240 → -7 ≤ T j ∧ T j ≤ 8 := by decide +kernel
theorem tabL_len : tabL.length = 240 := by decide +kernel
theorem T_all (j : Nat) : -7 ≤ T j ∧ T j ≤ 8 := by
  by_cases h : j < 240
  · exact T_small j h
  · have e : T j = 0 := by
      unfold T
      rw [List.getD_eq_getElem?_getD, List.getElem?_eq_none (by rw [tabL_len]; omega), Option.getD_none]
    omega
theorem mul_all {y w : Int} (h0 : -7 ≤ y ∧ y ≤ 8) (hw : 1 ≤ w ∧ w ≤ 16384) : -114688 ≤ y * w ∧ y * w ≤ 131072 := by
  have h1 : y * w ≤ 8 * w := Int.mul_le_mul_of_nonneg_right h0.2 (by omega)
  have h2 : (-7) * w ≤ y * w := Int.mul_le_mul_of_nonneg_right h0.1 (by omega)
  omega
theorem py_small : ∀ m, m < 120 → 0 ≤ py m ∧ py m ≤ 7 ∧ (0 < py m ∨ 0 < px m) := by decide +kernel
theorem px_small (m : Nat) (h : m < 120) : -7 ≤ px m ∧ px m ≤ 8 := T_small _ (by omega)
theorem apart : ∀ i, i < 120 → ∀ k, k < 120 → px i = px k → py i = py k → i = k := by decide +kernel
theorem mul_bound {y w : Int} (h0 : 0 ≤ y) (h7 : y ≤ 7) (hw : 1 ≤ w ∧ w ≤ 16384) : 0 ≤ y * w ∧ y * w ≤ 114688 := by
  refine ⟨Int.mul_nonneg h0 (by omega), ?_⟩
  have h1 : y * w ≤ 7 * w := Int.mul_le_mul_of_nonneg_right h7 (by omega)
  omega
theorem dd_bound (m : Nat) (w : Int) (h : m < 120) (hw : 1 ≤ w ∧ w ≤ 16384) : 1 ≤ dd m w ∧ dd m w ≤ 114696 := by
  have h1 := py_small m h
  have h2 := px_small m h
  have h3 := mul_bound h1.1 h1.2.1 hw
  unfold dd cut
  split <;> omega
/-- In rows of 16 and more nothing is cut. -/
theorem dd_wide (m : Nat) (w : Int) (h : m < 120) (hw : 16 ≤ w) : dd m w = px m + py m * w := by
  have h1 := py_small m h
  have h2 := px_small m h
  unfold dd cut
  rw [if_neg]
  rcases h1.2.2 with h3 | h3
  · have : 1 * w ≤ py m * w := Int.mul_le_mul_of_nonneg_right (by omega) (by omega)
    omega
  · have : 0 ≤ py m * w := Int.mul_nonneg h1.1 (by omega)
    omega
theorem dd_inj (i k : Nat) (w : Int) (hi : i < 120) (hk : k < 120) (hw : 16 ≤ w) (h : dd i w = dd k w) : i = k := by
  rw [dd_wide i w hi hw, dd_wide k w hk hw] at h
  have a1 := px_small i hi
  have a2 := px_small k hk
  have e : (py i - py k) * w = px k - px i := by rw [Int.sub_mul]; omega
  have h0 : py i = py k := by
    rcases Int.lt_trichotomy (py i) (py k) with hl | hl | hl
    · have : (py i - py k) * w ≤ (-1) * w := Int.mul_le_mul_of_nonneg_right (by omega) (by omega)
      omega
    · exact hl
    · have : 1 * w ≤ (py i - py k) * w := Int.mul_le_mul_of_nonneg_right (by omega) (by omega)
      omega
  refine apart i hi k hk ?_ h0
  rw [h0] at e
  simp at e
  omega
theorem dd_top (m : Nat) (w : Int) (h : m < 120) (hw : 16 ≤ w) : dd m w ≠ 8 * w + 9 := by
  have h1 := py_small m h
  have h2 := px_small m h
  rw [dd_wide m w h hw]
  have : py m * w ≤ 7 * w := Int.mul_le_mul_of_nonneg_right h1.2.1 (by omega)
  omega
end Go.Proofs.YtgjpcjnhggcfdaaGreatDoor.NNum

namespace Go.Proofs.YtgjpcjnhggcfdaaGreatDoor.PNum

/-- One of a pixel's four: alpha, red, green, blue. -/
def pt (p k : Nat) : Nat := p / 2 ^ (24 - 8 * k) % 256
/-- The pixel of four. -/
def mk (f : Nat → Nat) : Nat := ((f 0 * 256 + f 1) * 256 + f 2) * 256 + f 3
theorem pt_lt (p k : Nat) : pt p k < 256 := Nat.mod_lt _ (by omega)
theorem pt_0 (p : Nat) : pt p 0 = p / 16777216 % 256 := rfl
theorem pt_1 (p : Nat) : pt p 1 = p / 65536 % 256 := rfl
theorem pt_2 (p : Nat) : pt p 2 = p / 256 % 256 := rfl
theorem pt_3 (p : Nat) : pt p 3 = p % 256 := by simp [pt]
theorem mk_lt {f : Nat → Nat} (h : ∀ k, k < 4 → f k < 256) : mk f < 4294967296 := by
  have h0 := h 0 (by omega); have h1 := h 1 (by omega); have h2 := h 2 (by omega); have h3 := h 3 (by omega)
  unfold mk; omega
theorem mk_congr {f g : Nat → Nat} (h : ∀ k, k < 4 → f k = g k) : mk f = mk g := by
  unfold mk; rw [h 0 (by omega), h 1 (by omega), h 2 (by omega), h 3 (by omega)]
theorem pt_mk {f : Nat → Nat} (h : ∀ k, k < 4 → f k < 256) {k : Nat} (hk : k < 4) : pt (mk f) k = f k := by
  have h0 := h 0 (by omega); have h1 := h 1 (by omega); have h2 := h 2 (by omega); have h3 := h 3 (by omega)
  have : k = 0 ∨ k = 1 ∨ k = 2 ∨ k = 3 := by omega
  rcases this with rfl | rfl | rfl | rfl
  · rw [pt_0]; unfold mk; omega
  · rw [pt_1]; unfold mk; omega
  · rw [pt_2]; unfold mk; omega
  · rw [pt_3]; unfold mk; omega
theorem mk_pt {p : Nat} (h : p < 4294967296) : mk (pt p) = p := by
  unfold mk; rw [pt_0, pt_1, pt_2, pt_3]; omega
theorem mk_is {p : Nat} (h : p < 4294967296) {f : Nat → Nat} (hf : ∀ k, k < 4 → f k = pt p k) : mk f = p := (mk_congr hf).trans (mk_pt h)

/-- Cut to 0 to 255. -/
def cutV (z : Int) : Nat := if z < 0 then 0 else if 255 < z then 255 else z.toNat
theorem cutV_lt (z : Int) : cutV z < 256 := by unfold cutV; split <;> (try split) <;> omega
theorem cutV_low {z : Int} (h : z < 0) : cutV z = 0 := by unfold cutV; rw [if_pos h]
theorem cutV_high {z : Int} (h : 255 < z) : cutV z = 255 := by unfold cutV; rw [if_neg (by omega), if_pos h]
theorem cutV_in {z : Int} (h0 : 0 ≤ z) (h1 : z ≤ 255) : (cutV z : Int) = z := by unfold cutV; rw [if_neg (by omega), if_neg (by omega)]; omega

def addF (p q k : Nat) : Nat := (pt p k + pt q k) % 256
def subF (p q k : Nat) : Nat := (pt p k + 256 - pt q k) % 256
def avgF (p q k : Nat) : Nat := (pt p k + pt q k) / 2
def fullF (l t u k : Nat) : Nat := cutV ((pt l k : Int) + pt t k - pt u k)
def halfF (p q k : Nat) : Nat := cutV ((pt p k : Int) + ((pt p k : Int) - pt q k).tdiv 2)
/-- How far two numbers are from each other. -/
def dif (a b : Nat) : Nat := ((a : Int) - b).natAbs
/-- How far two pixels are from each other, in the first n of their four. -/
def far (p q : Nat) : Nat → Nat
  | 0 => 0
  | n + 1 => far p q n + dif (pt p n) (pt q n)
def addV (p q : Nat) : Nat := mk (addF p q)
def subV (p q : Nat) : Nat := mk (subF p q)
def avgV (p q : Nat) : Nat := mk (avgF p q)
def fullV (l t u : Nat) : Nat := mk (fullF l t u)
def halfV (p q : Nat) : Nat := mk (halfF p q)
def pickV (l t u : Nat) : Nat := if far t u 4 < far l u 4 then l else t
theorem addF_lt (p q k : Nat) : addF p q k < 256 := Nat.mod_lt _ (by omega)
theorem subF_lt (p q k : Nat) : subF p q k < 256 := Nat.mod_lt _ (by omega)
theorem avgF_lt (p q k : Nat) : avgF p q k < 256 := by have := pt_lt p k; have := pt_lt q k; unfold avgF; omega
theorem fullF_lt (l t u k : Nat) : fullF l t u k < 256 := cutV_lt _
theorem halfF_lt (p q k : Nat) : halfF p q k < 256 := cutV_lt _
theorem addV_lt (p q : Nat) : addV p q < 4294967296 := mk_lt fun k _ => addF_lt p q k
theorem subV_lt (p q : Nat) : subV p q < 4294967296 := mk_lt fun k _ => subF_lt p q k
theorem avgV_lt (p q : Nat) : avgV p q < 4294967296 := mk_lt fun k _ => avgF_lt p q k
theorem fullV_lt (l t u : Nat) : fullV l t u < 4294967296 := mk_lt fun k _ => fullF_lt l t u k
theorem halfV_lt (p q : Nat) : halfV p q < 4294967296 := mk_lt fun k _ => halfF_lt p q k
theorem pickV_lt {l t : Nat} (u : Nat) (hl : l < 4294967296) (ht : t < 4294967296) : pickV l t u < 4294967296 := by unfold pickV; split <;> assumption
theorem pt_addV (p q : Nat) {k : Nat} (hk : k < 4) : pt (addV p q) k = addF p q k := pt_mk (fun k _ => addF_lt p q k) hk
theorem pt_subV (p q : Nat) {k : Nat} (hk : k < 4) : pt (subV p q) k = subF p q k := pt_mk (fun k _ => subF_lt p q k) hk
theorem pt_avgV (p q : Nat) {k : Nat} (hk : k < 4) : pt (avgV p q) k = avgF p q k := pt_mk (fun k _ => avgF_lt p q k) hk
theorem pt_fullV (l t u : Nat) {k : Nat} (hk : k < 4) : pt (fullV l t u) k = fullF l t u k := pt_mk (fun k _ => fullF_lt l t u k) hk
theorem pt_halfV (p q : Nat) {k : Nat} (hk : k < 4) : pt (halfV p q) k = halfF p q k := pt_mk (fun k _ => halfF_lt p q k) hk
theorem dif_le (p q k : Nat) : dif (pt p k) (pt q k) ≤ 255 := by have := pt_lt p k; have := pt_lt q k; unfold dif; omega
theorem far_le (p q n : Nat) : far p q n ≤ 255 * n := by
  induction n with
  | zero => simp [far]
  | succ n ih => have := dif_le p q n; unfold far; omega

/-! ### Ways back -/
theorem sub_add {p : Nat} (q : Nat) (hp : p < 4294967296) : subV (addV p q) q = p :=
  mk_is hp fun k hk => by
    have := pt_lt p k; have := pt_lt q k
    unfold subF; rw [pt_addV p q hk]; unfold addF; omega
theorem add_sub {p : Nat} (q : Nat) (hp : p < 4294967296) : addV (subV p q) q = p :=
  mk_is hp fun k hk => by
    have := pt_lt p k; have := pt_lt q k
    unfold addF; rw [pt_subV p q hk]; unfold subF; omega
theorem add_comm (p q : Nat) : addV p q = addV q p := mk_congr fun k _ => by unfold addF; rw [Nat.add_comm]
theorem avg_self {p : Nat} (hp : p < 4294967296) : avgV p p = p := mk_is hp fun k _ => by unfold avgF; omega
theorem avg_between (p q : Nat) {k : Nat} (hk : k < 4) : ¬ (pt (avgV p q) k < pt p k ∧ pt (avgV p q) k < pt q k) ∧ ¬ (pt p k < pt (avgV p q) k ∧ pt q k < pt (avgV p q) k) := by
  rw [pt_avgV p q hk]; unfold avgF; omega
theorem full_comm (l t u : Nat) : fullV l t u = fullV t l u := mk_congr fun k _ => by unfold fullF; rw [Int.add_comm]
end Go.Proofs.YtgjpcjnhggcfdaaGreatDoor.PNum

namespace Go.Proofs.YtgjpcjnhggcfdaaGreatDoor.HNum
open Go.Proofs.YtgjpcjnhggcfdaaGreatDoor.PNum

/-- A step: its kind, length, distance, place, colour. -/
structure Tk where
  k : Int
  n : Int
  d : Int
  i : Int
  a : Nat
/-- How many places a cache has. -/
def pl (c : Nat) : Nat := if c = 0 then 0 else 2 ^ c
/-- How many symbols each of the five codes has. -/
def sz (c i : Nat) : Nat := if i = 0 then 280 + pl c else if i = 4 then 40 else 256
theorem pl_le (c : Nat) (h : c ≤ 11) : pl c ≤ 2048 := by
  unfold pl
  split
  · omega
  · exact Nat.pow_le_pow_right (n := 2) (by omega) h
theorem sz_bd (c i : Nat) (h : c ≤ 11) : 40 ≤ sz c i ∧ sz c i ≤ 2328 := by
  have := pl_le c h
  unfold sz
  split
  · omega
  · split <;> omega
/-- What one code tells of a step: whether it is there, the symbol, the number of bits behind it, the bits. -/
structure Pa where
  th : Bool
  sy : Nat
  bi : Nat
  ex : Nat
def nop : Pa := ⟨false, 0, 0, 0⟩
def sgl (s : Nat) : Pa := ⟨true, s, 0, 0⟩
/-- Five numbers. -/
def fvn (s : Nat → Nat) : Array Value := #[.int .i64 (s 0), .int .i64 (s 1), .int .i64 (s 2), .int .i64 (s 3), .int .i64 (s 4)]
/-- Five values. -/
def fv (u : Nat → Value) : Array Value := #[u 0, u 1, u 2, u 3, u 4]
/-- One part. -/
def pc (q : Pa) : Array Value := #[.bool q.th, .int .i64 q.sy, .int .i64 q.bi, .int .u32 q.ex]
/-- Five parts. -/
def prc (q : Nat → Pa) : Array Value := #[.bool (q 0).th, .int .i64 (q 0).sy, .int .i64 (q 0).bi, .int .u32 (q 0).ex, .bool (q 1).th, .int .i64 (q 1).sy, .int .i64 (q 1).bi, .int .u32 (q 1).ex, .bool (q 2).th, .int .i64 (q 2).sy, .int .i64 (q 2).bi, .int .u32 (q 2).ex, .bool (q 3).th, .int .i64 (q 3).sy, .int .i64 (q 3).bi, .int .u32 (q 3).ex, .bool (q 4).th, .int .i64 (q 4).sy, .int .i64 (q 4).bi, .int .u32 (q 4).ex]
/-- A step's five cells. -/
def tkc (t : Tk) : Array Value := #[.int .i64 t.k, .int .i64 t.n, .int .i64 t.d, .int .i64 t.i, .int .u32 t.a]
theorem fvn_size (s : Nat → Nat) : (fvn s).size = 5 := rfl
theorem prc_size (q : Nat → Pa) : (prc q).size = 20 := rfl
/-- What the codes tell of a Literal. -/
def plit (a : Nat) (i : Nat) : Pa := if i = 0 then sgl (pt a 2) else if i = 1 then sgl (pt a 1) else if i = 2 then sgl (pt a 3) else if i = 3 then sgl (pt a 0) else nop
theorem lt5 {i : Nat} (h : i < 5) : i = 0 ∨ i = 1 ∨ i = 2 ∨ i = 3 ∨ i = 4 := by omega
end Go.Proofs.YtgjpcjnhggcfdaaGreatDoor.HNum
