/- Contract: ref.Same says true of two slices of the same bytes. Conditions: both read as these bytes. -/
import Derived.Test.YtenhoipnenmeaaaPut
namespace Go.Proofs.Ytenhoipnenmeaaa.Same
set_option linter.unusedVariables false
open Go.ChangeShapes Go.WideShapes Go.ChangeAt Go.RowKit Go.Proofs.Ytenhoipnenmeaaa.Prod Go.Proofs.Ytenhoipnenmeaaa.Blk Go.Proofs.Ytenhoipnenmeaaa.Get Go.Proofs.Ytenhoipnenmeaaa.Put

set_option maxHeartbeats 400000 in
theorem same13_nil (w : World) :
    Calls Try.prog 13 #[.slice none 0 0, .slice none 0 0] w fun e w' => e = .returned (.bool true) ∧ w' = w := by
  go_enter Try.func13, Try.ntmps13
  go_wp2
  refine wp_loop_rounds 1 ?_
  rw [rounds_succ]
  go_wp2
  go_ret
  exact ⟨rfl, rfl⟩

set_option maxHeartbeats 400000 in
theorem same13_yes (b1 b2 n c1 c2 : Nat) (f : Nat → Int) (w : World) (hn : n ≤ 8)
    (h1 : ∀ k, k < n → w.cell? ⟨b1, k, none⟩ = some (.int .u8 (f k))) (h2 : ∀ k, k < n → w.cell? ⟨b2, k, none⟩ = some (.int .u8 (f k))) (l1 : b1 < w.heap.size) (l2 : b2 < w.heap.size) :
    Calls Try.prog 13 #[.slice (some ⟨b1, 0, none⟩) n c1, .slice (some ⟨b2, 0, none⟩) n c2] w fun e w' => e = .returned (.bool true) ∧ Below w.heap.size w w' := by
  go_enter Try.func13, Try.ntmps13
  go_wp2
  go_loopw [5] (fun i wr => ∃ k : Nat, k ≤ n ∧ i = .int .i64 k ∧ Below w.heap.size w wr) (fun i _ => n - (intOf i).toNat)
  case atStart => exact ⟨0, Nat.zero_le _, rfl, Below.refl _ _⟩
  case round =>
    obtain ⟨k, hk, rfl, hbel⟩ := hrel
    by_cases hlt : k < n
    · have g1 : wr.cell? ⟨b1, k, none⟩ = some (.int .u8 (f k)) := (hbel.cell (p := ⟨b1, k, none⟩) l1).trans (h1 k hlt)
      have g2 : wr.cell? ⟨b2, k, none⟩ = some (.int .u8 (f k)) := (hbel.cell (p := ⟨b2, k, none⟩) l2).trans (h2 k hlt)
      have HB := hide hbel
      clear hbel h1 h2
      go_wp2
      go_region
      go_wp2
      go_roundw
      case rel => exact ⟨k + 1, by omega, by go_num, (unhide HB).drew⟩
      case measure => simp [intOf]; omega
    · have HB := hide hbel
      clear hbel h1 h2
      go_wp2
      go_ret
      exact ⟨rfl, unhide HB⟩

theorem leN_dig (v : Int) : ∀ (n p : Nat), leN (dig v) p n = v / 256 ^ p % 256 ^ n
  | 0, p => by simp [leN, Int.emod_one]
  | n + 1, p => by
    rw [leN, leN_dig v n (p + 1), ← div_step]
    unfold dig
    generalize v / 256 ^ p = x
    have hM : (0 : Int) < 256 ^ n := Int.pow_pos (by omega)
    rw [Int.pow_succ]
    generalize (256 : Int) ^ n = M at *
    have e1 := Int.mul_ediv_add_emod x 256
    have e2 := Int.mul_ediv_add_emod (x / 256) M
    have b1 := Int.emod_lt_of_pos (x / 256) hM
    have b2 := Int.emod_nonneg (x / 256) (show M ≠ 0 by omega)
    have e3 : x = (x % 256 + 256 * (x / 256 % M)) + (M * 256) * (x / 256 / M) := by
      have : M * 256 * (x / 256 / M) = 256 * (M * (x / 256 / M)) := by rw [Int.mul_comm M 256, Int.mul_assoc]
      omega
    have e4 : x % (M * 256) = (x % 256 + 256 * (x / 256 % M)) % (M * 256) := by
      have e5 := Int.add_mul_emod_self_left (x % 256 + 256 * (x / 256 % M)) (M * 256) (x / 256 / M)
      rw [← e3] at e5
      exact e5
    rw [e4]; exact (Int.emod_eq_of_lt (by omega) (by omega)).symm
theorem leN_back (v : Int) (n : Nat) (h0 : 0 ≤ v) (h : v < 256 ^ n) : leN (dig v) 0 n = v := by
  rw [leN_dig]; simp; exact Int.emod_eq_of_lt h0 h
theorem dig_bd (v : Int) (k : Nat) : 0 ≤ dig v k ∧ dig v k ≤ 255 := by unfold dig; omega
end Go.Proofs.Ytenhoipnenmeaaa.Same
