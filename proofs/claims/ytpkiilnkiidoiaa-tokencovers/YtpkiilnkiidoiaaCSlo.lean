/- Contracts: cache.Slot, mayBe and the document's Slot answer the same place. Conditions: none on the numbers. -/
import Derived.Test.YtpkiilnkiidoiaaCNum
namespace Go.Proofs.Ytpkiilnkiidoiaa.CSlo
open Go.ChangeShapes Go.WideShapes Go.ChangeAt Go.RowKit Go.Proofs.Ytpkiilnkiidoiaa.Core Go.Proofs.Ytpkiilnkiidoiaa.CNum

theorem may14 (b : Int) (w : World) :
    Calls Try.prog 39 #[.int .i64 b] w fun e w' => e = .returned (.bool (mbV b)) ∧ w' = w := by
  by_cases h0 : 1 ≤ b
  · by_cases h1 : b ≤ 11
    · have H := hide (mbV_yes b h0 h1)
      go_enter Try.func39, Try.ntmps39
      go_wp2
      go_ret
      exact ⟨ret_bool (unhide H).symm, rfl⟩
    · have H := hide (mbV_no b (by omega))
      go_enter Try.func39, Try.ntmps39
      go_wp2
      go_ret
      exact ⟨ret_bool (unhide H).symm, rfl⟩
  · have H := hide (mbV_no b (by omega))
    go_enter Try.func39, Try.ntmps39
    go_wp2
    go_ret
    exact ⟨ret_bool (unhide H).symm, rfl⟩
theorem sl_cast (a b : Nat) : 506832829 * (a : Int) % 4294967296 / 2 ^ (32 - b) = ((sl a b : Nat) : Int) := by
  unfold sl; simp
theorem slot13_no (a : Int) (b : Int) (w : World) (h : b < 1 ∨ 11 < b) :
    Calls Try.prog 41 #[.int .u32 a, .int .i64 b] w fun e w' => e = .returned (.int .i64 0) ∧ w' = w := by
  have H := hide (mbV_no b h)
  clear h
  go_enter Try.func41, Try.ntmps41
  go_wp2_with fail
  refine (may14 _ _).mono ?_
  rintro e w' ⟨rfl, rfl⟩
  rw [unhide H]
  go_wp2
  go_ret
  exact ⟨rfl, rfl⟩
theorem slot13_in (a b : Nat) (w : World) (h0 : 1 ≤ b) (h1 : b ≤ 11) :
    Calls Try.prog 41 #[.int .u32 a, .int .i64 b] w fun e w' => e = .returned (.int .i64 (sl a b : Nat)) ∧ w' = w := by
  have H := hide (mbV_yes b (by omega) (by omega))
  have L := hide (sl_lt32 a b h1)
  go_enter Try.func41, Try.ntmps41
  go_wp2_with fail
  refine (may14 _ _).mono ?_
  rintro e w' ⟨rfl, rfl⟩
  rw [unhide H]
  go_wp2
  go_ret
  refine ⟨ret_int ?_, rfl⟩
  rw [sl_cast]
  have := unhide L
  unfold wrap64
  omega
theorem slot13 (a : Nat) (b : Int) (w : World) :
    Calls Try.prog 41 #[.int .u32 a, .int .i64 b] w fun e w' => e = .returned (.int .i64 (slV a b)) ∧ w' = w := by
  by_cases h : b < 1 ∨ 11 < b
  · rw [slV_no a b h]; exact slot13_no a b w h
  · obtain ⟨b, rfl⟩ := Int.eq_ofNat_of_zero_le (show 0 ≤ b by omega)
    rw [slV_in a b (by omega) (by omega)]
    exact slot13_in a b w (by omega) (by omega)
theorem rslot10_no (a : Int) (b : Int) (w : World) (h : b < 1 ∨ 11 < b) :
    Calls Try.prog 25 #[.int .u32 a, .int .i64 b] w fun e w' => e = .returned (.int .i64 0) ∧ w' = w := by
  rcases h with h | h
  · go_enter Try.func25, Try.ntmps25
    go_wp2
    go_ret
    exact ⟨rfl, rfl⟩
  · have h' : 1 ≤ b := by omega
    go_enter Try.func25, Try.ntmps25
    go_wp2
    go_ret
    exact ⟨rfl, rfl⟩
/-- A number halved k times. -/
def hv (a k : Nat) : Nat := 506832829 * a % 4294967296 / 2 ^ k
theorem hv_lt (a k : Nat) : hv a k < 4294967296 := Nat.lt_of_le_of_lt (Nat.div_le_self ..) (Nat.mod_lt _ (by omega))
theorem hv_next (a k : Nat) : hv a k / 2 = hv a (k + 1) := by
  unfold hv; rw [Nat.div_div_eq_div_mul, ← Nat.pow_succ]
theorem hv_zero (a : Nat) : ((hv a 0 : Nat) : Int) = 506832829 * (a : Int) % 4294967296 := by
  unfold hv; simp
theorem start_at (a : Nat) (ha : a < 4294967296) : (IntKind.u64.wrap (IntKind.u64.wrap (a : Int) * 506832829)).tmod 4294967296 = ((hv a 0 : Nat) : Int) := by
  rw [hv_zero, IntWalk.u64_in (a : Int) (by omega), IntWalk.u64_in _ (by omega), Int.tmod_eq_emod_of_nonneg (by omega), Int.mul_comm]
set_option maxHeartbeats 1000000 in
set_option maxRecDepth 20000 in
theorem rslot10_in (a b : Nat) (w : World) (ha : a < 4294967296) (h0 : 1 ≤ b) (h1 : b ≤ 11) :
    Calls Try.prog 25 #[.int .u32 a, .int .i64 b] w fun e w' => e = .returned (.int .i64 (sl a b : Nat)) ∧ w' = w := by
  have Z := hide (hv_zero a)
  have HA := hide ha
  have h0' : 1 ≤ (b : Int) := by omega
  have h1' : (b : Int) ≤ 11 := by omega
  have L := hide (sl_lt32 a b h1)
  have K := hide (show sl a b = hv a (32 - b) from rfl)
  clear ha h0 h1
  go_enter Try.func25, Try.ntmps25
  go_wp2
  go_loop [5, 6] (fun n i => ∃ j : Nat, j + b ≤ 32 ∧ i = .int .i64 j ∧ n = .int .u64 (hv a j : Nat)) (fun _ i => 32 - (intOf i).toNat)
  case atStart => exact ⟨0, by omega, rfl, congrArg (Value.int .u64) (start_at a (unhide HA))⟩
  case round =>
    obtain ⟨j, hj, rfl, rfl⟩ := hrel
    by_cases hlt : j + b < 32
    · have N := hide (hv_next a j)
      have l := hv_lt a j
      have l' : ((hv a j : Nat) : Int) < 4294967296 := by omega
      clear l
      have hlt' : (j : Int) < 32 - (b : Int) := by omega
      generalize hv a j = f at *
      go_wp2
      go_round
      case rel => exact ⟨j + 1, by omega, by go_num, by rw [← unhide N]; simp⟩
      case measure => simp [intOf]; omega
    · have e : j = 32 - b := by omega
      have hlt' : ¬ (j : Int) < 32 - (b : Int) := by omega
      have k : sl a b = hv a j := by rw [e]; exact unhide K
      have l := unhide L
      rw [k] at l
      have HK := hide k
      have l' : ((hv a j : Nat) : Int) < 2048 := by omega
      have l2 : ((hv a j : Nat) : Int) < 4294967296 := by omega
      clear l k e
      generalize hv a j = f at *
      go_wp2
      go_ret
      exact ⟨ret_int (by rw [unhide HK]), rfl⟩
theorem rslot10 (a : Nat) (b : Int) (w : World) (ha : a < 4294967296) :
    Calls Try.prog 25 #[.int .u32 a, .int .i64 b] w fun e w' => e = .returned (.int .i64 (slV a b)) ∧ w' = w := by
  by_cases h : b < 1 ∨ 11 < b
  · rw [slV_no a b h]; exact rslot10_no a b w h
  · obtain ⟨b, rfl⟩ := Int.eq_ofNat_of_zero_le (show 0 ≤ b by omega)
    rw [slV_in a b (by omega) (by omega)]
    exact rslot10_in a b w ha (by omega) (by omega)
end Go.Proofs.Ytpkiilnkiidoiaa.CSlo
