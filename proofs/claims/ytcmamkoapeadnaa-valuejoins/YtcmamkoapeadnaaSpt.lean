/- Contracts: value.Split answers the one symbol and bits of a number. Conditions: none on the number. -/
import Derived.Test.YtcmamkoapeadnaaJoi
import Derived.OwnWalk
namespace Go.Proofs.Ytcmamkoapeadnaa.Spt
open Go.ChangeShapes Go.WideShapes Go.ChangeAt Go.RowKit Go.Proofs.Ytcmamkoapeadnaa.Core Go.Proofs.Ytcmamkoapeadnaa.Num Go.Proofs.Ytcmamkoapeadnaa.Val Go.Proofs.Ytcmamkoapeadnaa.Joi

/-- What Split answers. -/
def told (s k x : Int) : Ending := .returned (.tuple #[.int .i64 s, .int .i64 k, .int .u32 x])
theorem told_eq {s k x t j y : Int} (h1 : s = t) (h2 : k = j) (h3 : x = y) : Ending.returned (.tuple #[.int .i64 s, .int .i64 k, .int .u32 x]) = told t j y := by rw [h1, h2, h3]; rfl

set_option maxHeartbeats 1000000 in
theorem split_out (n : Int) (w : World) (h : n < 1 ∨ 1048576 < n) :
    Calls Try.prog 12 #[.int .i64 n] w fun e w' => e = told 0 0 0 ∧ w' = w := by
  rcases h with h | h
  · go_enter Try.func12, Try.ntmps12
    go_wp2
    go_ret3
    exact ⟨rfl, rfl⟩
  · have h' : 1 ≤ n := by omega
    go_enter Try.func12, Try.ntmps12
    go_wp2
    go_ret3
    exact ⟨rfl, rfl⟩
set_option maxHeartbeats 1000000 in
theorem split_small (n : Nat) (w : World) (h0 : 1 ≤ n) (h1 : n ≤ 4) :
    Calls Try.prog 12 #[.int .i64 n] w fun e w' => e = told (n - 1 : Nat) 0 0 ∧ w' = w := by
  have h0' : 1 ≤ (n : Int) := by omega
  have h1' : (n : Int) ≤ 4 := by omega
  have h2' : (n : Int) ≤ 1048576 := by omega
  go_enter Try.func12, Try.ntmps12
  go_wp2
  go_ret3
  exact ⟨told_eq (by omega) rfl rfl, rfl⟩
theorem mask_at (a j : Nat) (ha : a < 1048576) (hj : j ≤ 18) : bits .and .u32 (a : Int) (2 ^ j - 1) = ((a % 2 ^ j : Nat) : Int) := by
  have p : 1 ≤ 2 ^ j := Nat.pow_pos (by omega)
  have q : 2 ^ j ≤ 2 ^ 18 := Nat.pow_le_pow_right (by omega) hj
  have e : (2 : Int) ^ j - 1 = ((2 ^ j - 1 : Nat) : Int) := by
    have : (2 : Int) ^ j = ((2 ^ j : Nat) : Int) := by simp
    omega
  rw [e, u32_and_nat _ _ (by omega) (by omega), Nat.and_two_pow_sub_one_eq_mod]
theorem second_at (a j : Nat) (ha : a < 1048576) : bits .and .u32 ((a : Int) / 2 ^ j) 1 = ((a / 2 ^ j % 2 : Nat) : Int) := by
  have e : (a : Int) / 2 ^ j = ((a / 2 ^ j : Nat) : Int) := by simp
  have l : a / 2 ^ j ≤ a := Nat.div_le_self ..
  rw [e, show (1 : Int) = ((1 : Nat) : Int) from rfl, u32_and_nat _ _ (by omega) (by omega), nat_mask1]
set_option maxHeartbeats 1000000 in
theorem split_big (n a k : Nat) (w : World) (hn : n = a + 1) (h4 : 4 ≤ a) (ha : a < 1048576) (hb : bitLen a = k + 1) (k2 : 2 ≤ k) (k19 : k ≤ 19) :
    Calls Try.prog 12 #[.int .i64 n] w fun e w' => e = told (2 * k + a / 2 ^ (k - 1) % 2 : Nat) (k - 1 : Nat) (a % 2 ^ (k - 1) : Nat) ∧ ∃ m, w' = w.drewN m := by
  subst hn
  obtain ⟨j, rfl⟩ : ∃ j, k = j + 1 := ⟨k - 1, by omega⟩
  simp only [Nat.add_sub_cancel]
  have HI := hide (high14 a (j + 1) w ha hb)
  have j18 : j ≤ 18 := by omega
  have M := mask_at a j ha j18
  have X := second_at a j ha
  have p1 : (1 : Int) ≤ 2 ^ j := by have : 1 ≤ 2 ^ j := Nat.pow_pos (by omega); have e : (2 : Int) ^ j = ((2 ^ j : Nat) : Int) := by simp
                                    omega
  have p2 : (2 : Int) ^ j ≤ 262144 := by
    have q : 2 ^ j ≤ 2 ^ 18 := Nat.pow_le_pow_right (by omega) j18
    have e : (2 : Int) ^ j = ((2 ^ j : Nat) : Int) := by simp
    omega
  have r : a / 2 ^ j % 2 < 2 := Nat.mod_lt _ (by omega)
  have r2 : a % 2 ^ j < 262144 := by
    have := Nat.mod_lt a (show 0 < 2 ^ j from Nat.pow_pos (by omega))
    have q : 2 ^ j ≤ 2 ^ 18 := Nat.pow_le_pow_right (by omega) j18
    omega
  generalize a / 2 ^ j % 2 = d at *
  generalize a % 2 ^ j = x at *
  clear hb k2 k19
  go_enter Try.func12, Try.ntmps12
  go_wp2_with fail
  refine (unhide HI).mono ?_
  rintro e w' ⟨rfl, rfl⟩
  go_wp2
  go_quiet (fail)
  go_wp2
  go_ret3
  refine ⟨told_eq ?_ ?_ ?_, _, rfl⟩
  all_goals first | rfl | omega

/-- A call that hands back the symbol, how many bits, and the bits of n. -/
structure Gv (n : Nat) (e : Ending) (w w' : World) : Prop where
  ex : ∃ s x : Nat, Is n s x ∧ e = .returned (.tuple #[.int .i64 s, .int .i64 (exn s : Nat), .int .u32 x]) ∧ ∃ m, w' = w.drewN m

theorem split12 (n : Nat) (w : World) (h0 : 1 ≤ n) (h1 : n ≤ 1048576) :
    Calls Try.prog 12 #[.int .i64 n] w fun e w' => Gv n e w w' := by
  by_cases h : n ≤ 4
  · refine (split_small n w h0 h).mono ?_
    rintro e w' ⟨rfl, rfl⟩
    obtain ⟨i, z⟩ := is_small n h0 h
    exact ⟨n - 1, 0, i, by rw [z]; rfl, 0, rfl⟩
  · obtain ⟨k, hb, k1, k2⟩ := bitLen_at (n - 1) (by omega)
    obtain ⟨i, z, g2, g19⟩ := is_big (n - 1) k (by omega) (by omega) k1 k2
    refine (split_big n (n - 1) k w (by omega) (by omega) (by omega) hb g2 g19).mono ?_
    rintro e w' ⟨rfl, m, rfl⟩
    rw [show n - 1 + 1 = n by omega] at i
    exact ⟨_, _, i, by rw [z]; rfl, m, rfl⟩
theorem split5 (w : World) :
    Calls Try.prog 12 #[.int .i64 5] w fun e w' => e = .returned (.tuple #[.int .i64 4, .int .i64 1, .int .u32 0]) ∧ ∃ m, w' = w.drewN m := by
  refine (split12 5 w (by omega) (by omega)).mono ?_
  rintro e w' ⟨s, x, i, rfl, m, rfl⟩
  obtain ⟨rfl, rfl⟩ := frs_one s 4 x 0 i.sym (by omega) i.low (by decide) (i.num.trans (by decide))
  exact ⟨rfl, m, rfl⟩
theorem ans7 (w : World) :
    Calls Try.prog 7 #[] w fun e w' => e = .returned (.bool true) ∧ ∃ m, w' = w.drewN m := by
  have J := hide (show joV 4 1 = 6 by decide)
  go_enter Try.func7, Try.ntmps7
  go_wp2_with fail
  refine (split5 _).mono ?_
  rintro e w' ⟨rfl, m, rfl⟩
  go_wp2_with fail
  refine (join10 _ _ _ (by omega)).mono ?_
  rintro e w' ⟨rfl, rfl⟩
  rw [unhide J]
  go_wp2
  go_ret
  exact ⟨rfl, m, rfl⟩
theorem below_drew {B : Nat} {a w : World} (h : Below B a w) (n : Nat) : Below B a (w.drewN n) := ⟨h.os, h.tape, h.output, h.size, h.block⟩
theorem split_next (s l : Nat) (w : World) (hs : s < 39) (hl : frs (s + 1) = l + 1) :
    Calls Try.prog 12 #[.int .i64 ((l : Int) + 1)] w fun e w' => e = .returned (.tuple #[.int .i64 ((s : Int) + 1), .int .i64 (exn (s + 1) : Nat), .int .u32 0]) ∧ ∃ m, w' = w.drewN m := by
  have b := frs_le (s + 1) (by omega)
  have b2 : frs (s + 1) ≤ 1048577 := Nat.le_trans (Nat.le_add_right _ _) b
  have p := (pow_exn (s + 1) (by omega)).1
  have b3 : l + 1 ≤ 1048576 := by omega
  refine (split12 (l + 1) w (by omega) b3).mono ?_
  rintro e w' ⟨t, x, i, rfl, m, rfl⟩
  obtain ⟨rfl, rfl⟩ := frs_one t (s + 1) x 0 i.sym (by omega) i.low p (i.num.trans (by omega))
  exact ⟨rfl, m, rfl⟩
theorem join_last (s l : Nat) (hs : s < 39) (hl : frs (s + 1) = l + 1) : joV (s : Int) (2 ^ exn s - 1) = (l : Int) := by
  have n := frs_next s (by omega)
  have p := (pow_exn s (by omega)).1
  have e : (2 : Int) ^ exn s - 1 = ((2 ^ exn s - 1 : Nat) : Int) := by
    have : (2 : Int) ^ exn s = ((2 ^ exn s : Nat) : Int) := by simp
    omega
  rw [e, joV_in s _ (by omega) (by omega)]
  omega
theorem join_first (s l : Nat) (hs : s < 39) (hl : frs (s + 1) = l + 1) : joV ((s : Int) + 1) 0 = (l : Int) + 1 := by
  have p := (pow_exn (s + 1) (by omega)).1
  have h := joV_in (s + 1) 0 (by omega) p
  rw [Nat.add_zero, hl] at h
  exact h
theorem join_over (s : Nat) : joV (s : Int) (2 ^ exn s) = 0 := by
  have : (2 : Int) ^ exn s = ((2 ^ exn s : Nat) : Int) := by simp
  rw [this]; exact joV_much s _ (Nat.le_refl _)
end Go.Proofs.Ytcmamkoapeadnaa.Spt
