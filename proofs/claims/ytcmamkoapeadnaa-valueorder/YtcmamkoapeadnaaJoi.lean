/- Contracts: value.Join and the document's Join answer the same number. Conditions: none on the numbers. -/
import Derived.Test.YtcmamkoapeadnaaVal
namespace Go.Proofs.Ytcmamkoapeadnaa.Joi
open Go.ChangeShapes Go.WideShapes Go.ChangeAt Go.RowKit Go.Proofs.Ytcmamkoapeadnaa.Core Go.Proofs.Ytcmamkoapeadnaa.Num Go.Proofs.Ytcmamkoapeadnaa.Val

theorem top_at : ∀ s : Nat, s < 40 → bits .or .i64 2 (bits .and .i64 (s : Int) 1) = 2 + ((s % 2 : Nat) : Int) := by decide +kernel

theorem shr_some (x k : Nat) (h : 2 ^ k ≤ x) : ((x : Int) / 2 ^ k != 0) = true := by
  have q : 0 < x / 2 ^ k := Nat.div_pos h (Nat.pow_pos (by omega))
  have e : (x : Int) / 2 ^ k = ((x / 2 ^ k : Nat) : Int) := by simp
  rw [e, bne_iff_ne]; omega
theorem shr_none (x k : Nat) (h : x < 2 ^ k) : ((x : Int) / 2 ^ k != 0) = false := by
  have e : (x : Int) / 2 ^ k = ((x / 2 ^ k : Nat) : Int) := by simp
  rw [e, Nat.div_eq_of_lt h]; rfl

set_option maxHeartbeats 1000000 in
theorem join10_out (s x : Int) (w : World) (h : s < 0 ∨ 39 < s) :
    Calls Try.prog 10 #[.int .i64 s, .int .u32 x] w fun e w' => e = .returned (.int .i64 0) ∧ w' = w := by
  have H := hide (syV_no s h)
  have E := hide (exV_no s (by omega))
  clear h
  go_enter Try.func10, Try.ntmps10
  go_wp2_with fail
  refine (ext8 _ _).mono ?_
  rintro e w' ⟨rfl, rfl⟩
  rw [unhide E]
  go_wp2_with fail
  refine (sym13 _ _).mono ?_
  rintro e w' ⟨rfl, rfl⟩
  rw [unhide H]
  go_wp2
  go_ret
  exact ⟨rfl, rfl⟩
set_option maxHeartbeats 1000000 in
theorem join10_much (s x : Nat) (w : World) (hs : s < 40) (h : 2 ^ exn s ≤ x) :
    Calls Try.prog 10 #[.int .i64 s, .int .u32 x] w fun e w' => e = .returned (.int .i64 0) ∧ w' = w := by
  have H := hide (syV_yes s (by omega) (by omega))
  have E := hide (exV_nat s hs)
  have k18 := exn_le s hs
  have p := pow_exn s hs
  have q := shr_some x (exn s) h
  generalize exn s = k at *
  clear h
  go_enter Try.func10, Try.ntmps10
  go_wp2_with fail
  refine (ext8 _ _).mono ?_
  rintro e w' ⟨rfl, rfl⟩
  rw [unhide E]
  go_wp2_with fail
  refine (sym13 _ _).mono ?_
  rintro e w' ⟨rfl, rfl⟩
  rw [unhide H]
  go_wp2
  go_ret
  exact ⟨rfl, rfl⟩
set_option maxHeartbeats 1000000 in
theorem join10_bare (s x : Nat) (w : World) (hs : s < 4) (h : x < 2 ^ exn s) :
    Calls Try.prog 10 #[.int .i64 s, .int .u32 x] w fun e w' => e = .returned (.int .i64 ((frs s + x : Nat) : Int)) ∧ w' = w := by
  have H := hide (syV_yes s (by omega) (by omega))
  have E := hide (exV_nat s (by omega))
  have e0 : exn s = 0 := if_pos hs
  have f0 : frs s = s + 1 := if_pos hs
  rw [e0] at h E
  obtain rfl : x = 0 := by simpa using h
  have F := hide f0
  have hs' : (s : Int) < 4 := by omega
  clear h e0 f0
  go_enter Try.func10, Try.ntmps10
  go_wp2_with fail
  refine (ext8 _ _).mono ?_
  rintro e w' ⟨rfl, rfl⟩
  rw [unhide E]
  go_wp2_with fail
  refine (sym13 _ _).mono ?_
  rintro e w' ⟨rfl, rfl⟩
  rw [unhide H]
  go_wp2
  go_ret
  exact ⟨ret_int (by rw [unhide F]; omega), rfl⟩
set_option maxHeartbeats 1000000 in
theorem join10_in (s x : Nat) (w : World) (h4 : 4 ≤ s) (hs : s < 40) (h : x < 2 ^ exn s) :
    Calls Try.prog 10 #[.int .i64 s, .int .u32 x] w fun e w' => e = .returned (.int .i64 ((frs s + x : Nat) : Int)) ∧ w' = w := by
  have H := hide (syV_yes s (by omega) (by omega))
  have E := hide (exV_nat s (by omega))
  have e0 : exn s = s / 2 - 1 := if_neg (by omega)
  have f0 : frs s = (2 + s % 2) * 2 ^ (s / 2 - 1) + 1 := if_neg (by omega)
  rw [← e0] at f0
  have k18 := exn_le s hs
  have p := pow_exn s hs
  have pI := pow_exnI s hs
  have q := shr_none x (exn s) h
  have t := top_at s hs
  have h4' : 4 ≤ (s : Int) := by omega
  have x1 : (x : Int) ≤ 262144 := by omega
  have b1 : (2 + (s : Int) % 2) * 2 ^ exn s ≤ 1000000 := by
    have := Int.mul_le_mul_of_nonneg_right (show 2 + (s : Int) % 2 ≤ 3 by omega) (show 0 ≤ (2 : Int) ^ exn s by omega)
    omega
  have b0 : 0 ≤ (2 + (s : Int) % 2) * 2 ^ exn s := Int.mul_nonneg (by omega) (by omega)
  have F := hide f0
  generalize exn s = k at *
  clear h e0 f0
  go_enter Try.func10, Try.ntmps10
  go_wp2_with fail
  refine (ext8 _ _).mono ?_
  rintro e w' ⟨rfl, rfl⟩
  rw [unhide E]
  go_wp2_with fail
  refine (sym13 _ _).mono ?_
  rintro e w' ⟨rfl, rfl⟩
  rw [unhide H]
  go_wp2
  go_ret
  refine ⟨ret_int ?_, rfl⟩
  rw [unhide F]
  simp
  omega
theorem join10 (s x : Int) (w : World) (h0 : 0 ≤ x) :
    Calls Try.prog 10 #[.int .i64 s, .int .u32 x] w fun e w' => e = .returned (.int .i64 (joV s x)) ∧ w' = w := by
  by_cases h : s < 0 ∨ 39 < s
  · rw [joV_out s x h]; exact join10_out s x w h
  · obtain ⟨s, rfl⟩ := Int.eq_ofNat_of_zero_le (show 0 ≤ s by omega)
    obtain ⟨x, rfl⟩ := Int.eq_ofNat_of_zero_le h0
    by_cases hx : x < 2 ^ exn s
    · rw [joV_in s x (by omega) hx]
      by_cases h4 : s < 4
      · exact join10_bare s x w h4 hx
      · exact join10_in s x w (by omega) (by omega) hx
    · rw [joV_much s x (by omega)]; exact join10_much s x w (by omega) (by omega)

theorem below_yes (x k : Nat) (h : x < 2 ^ k) : decide ((2 : Int) ^ k ≤ (x : Int)) = false := by
  have e : (2 : Int) ^ k = ((2 ^ k : Nat) : Int) := by simp
  rw [e]; exact decide_eq_false (by omega)
theorem below_no (x k : Nat) (h : 2 ^ k ≤ x) : decide ((2 : Int) ^ k ≤ (x : Int)) = true := by
  have e : (2 : Int) ^ k = ((2 ^ k : Nat) : Int) := by simp
  rw [e]; exact decide_eq_true (by omega)

set_option maxHeartbeats 1000000 in
theorem ref11_out (s x : Int) (w : World) (h : s < 0 ∨ 39 < s) :
    Calls Try.prog 11 #[.int .i64 s, .int .u32 x] w fun e w' => e = .returned (.int .i64 0) ∧ w' = w := by
  rcases h with h | h
  · go_enter Try.func11, Try.ntmps11
    go_wp2
    go_ret
    exact ⟨rfl, rfl⟩
  · have h' : 0 ≤ s := by omega
    go_enter Try.func11, Try.ntmps11
    go_wp2
    go_ret
    exact ⟨rfl, rfl⟩
set_option maxHeartbeats 1000000 in
theorem ref11_much (s x : Nat) (w : World) (hs : s < 40) (hx : x < 4294967296) (h : 2 ^ exn s ≤ x) :
    Calls Try.prog 11 #[.int .i64 s, .int .u32 x] w fun e w' => e = .returned (.int .i64 0) ∧ w' = w := by
  have E := hide (exV_nat s hs)
  have k18 := exn_le s hs
  have pI := pow_exnI s hs
  have q := below_no x (exn s) h
  have hx' : (x : Int) < 4294967296 := by omega
  have hs' : (s : Int) ≤ 39 := by omega
  generalize exn s = k at *
  clear h
  go_enter Try.func11, Try.ntmps11
  go_wp2_with fail
  refine (ext9 _ _).mono ?_
  rintro e w' ⟨rfl, rfl⟩
  rw [unhide E]
  go_wp2
  go_ret
  exact ⟨rfl, rfl⟩
set_option maxHeartbeats 1000000 in
set_option maxRecDepth 20000 in
theorem ref11_in (s x : Nat) (w : World) (hs : s < 40) (h : x < 2 ^ exn s) :
    Calls Try.prog 11 #[.int .i64 s, .int .u32 x] w fun e w' => e = .returned (.int .i64 ((frs s + x : Nat) : Int)) ∧ w' = w := by
  have E := hide (exV_nat s hs)
  have k18 := exn_le s hs
  have pI := pow_exnI s hs
  have L := frs_le s hs
  have q := below_yes x (exn s) h
  have hx' : (x : Int) < 4294967296 := by have := pow_exn s hs; omega
  have hs' : (s : Int) ≤ 39 := by omega
  have L2 := hide (show frs s ≤ 1048577 by omega)
  clear L
  generalize exn s = k at *
  clear h
  go_enter Try.func11, Try.ntmps11
  go_wp2_with fail
  refine (ext9 _ _).mono ?_
  rintro e w' ⟨rfl, rfl⟩
  rw [unhide E]
  have HX : True → (x : Int) < 4294967296 := fun _ => hx'
  clear hx'
  go_wp2
  go_loop [5, 6] (fun n i => ∃ j : Nat, j ≤ s ∧ i = .int .i64 j ∧ n = .int .i64 (frs j : Nat)) (fun _ i => s - (intOf i).toNat)
  case atStart => exact ⟨0, Nat.zero_le _, rfl, rfl⟩
  case round =>
    obtain ⟨j, hj, rfl, rfl⟩ := hrel
    by_cases hlt : j < s
    · have P := hide (frs_next j (by omega))
      have E2 := hide (exV_nat j (by omega))
      have b := frs_le j (by omega)
      have j18 := exn_le j (by omega)
      have pJ := pow_exnI j (by omega)
      have fb0 : frs j ≤ 1048577 := Nat.le_trans (Nat.le_add_right _ _) b
      have fb : ((frs j : Nat) : Int) ≤ 1048577 := by omega
      clear b fb0
      have hlt' : (j : Int) < (s : Int) := by omega
      generalize frs j = f at *
      generalize exn j = m at *
      go_wp2_with fail
      refine (ext9 _ _).mono ?_
      rintro e w' ⟨rfl, rfl⟩
      rw [unhide E2]
      go_wp2
      go_round
      case rel => exact ⟨j + 1, by omega, by go_num, by rw [unhide P]; simp⟩
      case measure => simp [intOf]; omega
    · have e : j = s := by omega
      subst e
      have fb : ((frs j : Nat) : Int) ≤ 1048577 := by have := unhide L2; omega
      have hx' := HX trivial
      go_wp2
      go_ret
      exact ⟨ret_int (by omega), rfl⟩
theorem ref11 (s x : Int) (w : World) (h0 : 0 ≤ x) (h1 : x ≤ 4294967295) :
    Calls Try.prog 11 #[.int .i64 s, .int .u32 x] w fun e w' => e = .returned (.int .i64 (joV s x)) ∧ w' = w := by
  by_cases h : s < 0 ∨ 39 < s
  · rw [joV_out s x h]; exact ref11_out s x w h
  · obtain ⟨s, rfl⟩ := Int.eq_ofNat_of_zero_le (show 0 ≤ s by omega)
    obtain ⟨x, rfl⟩ := Int.eq_ofNat_of_zero_le h0
    by_cases hx : x < 2 ^ exn s
    · rw [joV_in s x (by omega) hx]
      exact ref11_in s x w (by omega) hx
    · rw [joV_much s x (by omega)]; exact ref11_much s x w (by omega) (by omega) (by omega)
end Go.Proofs.Ytcmamkoapeadnaa.Joi
