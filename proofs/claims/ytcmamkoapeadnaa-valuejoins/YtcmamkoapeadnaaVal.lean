/- Contracts: value.Extra, Join, Split and the document's Extra and Join, by plain arithmetic. Conditions: none on the numbers. -/
import Derived.Test.YtcmamkoapeadnaaNum
namespace Go.Proofs.Ytcmamkoapeadnaa.Val
open Go.ChangeShapes Go.WideShapes Go.ChangeAt Go.RowKit Go.Proofs.Ytcmamkoapeadnaa.Core Go.Proofs.Ytcmamkoapeadnaa.Num

/-- Whether a number is a symbol. -/
def syV (s : Int) : Bool := decide (0 ≤ s ∧ s ≤ 39)
theorem syV_yes (s : Int) (h0 : 0 ≤ s) (h1 : s ≤ 39) : syV s = true := decide_eq_true ⟨h0, h1⟩
theorem syV_no (s : Int) (h : s < 0 ∨ 39 < s) : syV s = false := decide_eq_false (by omega)

theorem sym13 (s : Int) (w : World) :
    Calls Try.prog 13 #[.int .i64 s] w fun e w' => e = .returned (.bool (syV s)) ∧ w' = w := by
  by_cases h0 : 0 ≤ s
  · by_cases h1 : s < 40
    · have H := hide (syV_yes s h0 (by omega))
      go_enter Try.func13, Try.ntmps13
      go_wp2
      go_ret
      exact ⟨ret_bool (unhide H).symm, rfl⟩
    · have H := hide (syV_no s (by omega))
      go_enter Try.func13, Try.ntmps13
      go_wp2
      go_ret
      exact ⟨ret_bool (unhide H).symm, rfl⟩
  · have H := hide (syV_no s (by omega))
    go_enter Try.func13, Try.ntmps13
    go_wp2
    go_ret
    exact ⟨ret_bool (unhide H).symm, rfl⟩

theorem exV_in (s : Int) (h0 : 4 ≤ s) (h1 : s ≤ 39) : exV s = s / 2 - 1 := if_pos ⟨h0, h1⟩
theorem exV_no (s : Int) (h : s < 4 ∨ 39 < s) : exV s = 0 := if_neg (by omega)

theorem ext8 (s : Int) (w : World) :
    Calls Try.prog 8 #[.int .i64 s] w fun e w' => e = .returned (.int .i64 (exV s)) ∧ w' = w := by
  by_cases h : 0 ≤ s ∧ s ≤ 39
  · obtain ⟨h0, h1⟩ := h
    by_cases h4 : s < 4
    · have H := hide (exV_no s (.inl h4))
      have D := hide (syV_yes s h0 h1)
      go_enter Try.func8, Try.ntmps8
      go_wp2_with fail
      refine (sym13 _ _).mono ?_
      rintro e w' ⟨rfl, rfl⟩
      rw [unhide D]
      go_wp2
      go_ret
      exact ⟨ret_int (unhide H).symm, rfl⟩
    · have h4' : 4 ≤ s := by omega
      have H := hide (exV_in s h4' h1)
      have D := hide (syV_yes s h0 h1)
      go_enter Try.func8, Try.ntmps8
      go_wp2_with fail
      refine (sym13 _ _).mono ?_
      rintro e w' ⟨rfl, rfl⟩
      rw [unhide D]
      go_wp2
      go_ret
      exact ⟨ret_int (unhide H).symm, rfl⟩
  · have H := hide (exV_no s (by omega))
    have D := hide (syV_no s (by omega))
    clear h
    go_enter Try.func8, Try.ntmps8
    go_wp2_with fail
    refine (sym13 _ _).mono ?_
    rintro e w' ⟨rfl, rfl⟩
    rw [unhide D]
    go_wp2
    go_ret
    exact ⟨ret_int (unhide H).symm, rfl⟩
theorem ext9 (s : Int) (w : World) :
    Calls Try.prog 9 #[.int .i64 s] w fun e w' => e = .returned (.int .i64 (exV s)) ∧ w' = w := by
  by_cases h4 : s < 4
  · have H := hide (exV_no s (.inl h4))
    go_enter Try.func9, Try.ntmps9
    go_wp2
    go_ret
    exact ⟨ret_int (unhide H).symm, rfl⟩
  · by_cases h1 : s ≤ 39
    · have h4' : 4 ≤ s := by omega
      have H := hide (exV_in s h4' h1)
      go_enter Try.func9, Try.ntmps9
      go_wp2
      go_ret
      exact ⟨ret_int (unhide H).symm, rfl⟩
    · have H := hide (exV_no s (by omega))
      go_enter Try.func9, Try.ntmps9
      go_wp2
      go_ret
      exact ⟨ret_int (unhide H).symm, rfl⟩

set_option maxRecDepth 100000 in
set_option maxHeartbeats 1000000 in
theorem len15 (x : Int) (w : World) (h0 : 0 ≤ x) (h1 : x ≤ 4294967295) :
    Calls Try.prog 15 #[.int .u32 x] w fun e w' => e = .returned (.int .i64 (bitLen x.toNat)) ∧ w' = w := by
  go_enter Try.func15, Try.ntmps15
  go_wp2
  all_goals (go_ret; refine ⟨congrArg Ending.returned (congrArg (Value.int IntKind.i64) ?_), rfl⟩)
  · rw [len8tab_get, show (x / 65536 / 256).toNat = x.toNat / 2 ^ 24 by omega]
    have l := bitLen_le8 (x.toNat / 2 ^ 24) (by omega)
    rw [bitLen_shift x.toNat 24 (by omega)]
    unfold wrap64
    omega
  · rw [len8tab_get, show (x / 65536).toNat = x.toNat / 2 ^ 16 by omega]
    have l := bitLen_le8 (x.toNat / 2 ^ 16) (by omega)
    rw [bitLen_shift x.toNat 16 (by omega)]
    unfold wrap64
    omega
  · rw [len8tab_get, show (x / 256).toNat = x.toNat / 2 ^ 8 by omega]
    have l := bitLen_le8 (x.toNat / 2 ^ 8) (by omega)
    rw [bitLen_shift x.toNat 8 (by omega)]
    unfold wrap64
    omega
  · rw [len8tab_get]
    have l := bitLen_le8 x.toNat (by omega)
    unfold wrap64
    omega

theorem high14 (a k : Nat) (w : World) (ha : a < 1048576) (h : bitLen a = k + 1) :
    Calls Try.prog 14 #[.int .u32 a] w fun e w' => e = .returned (.int .i64 k) ∧ w' = w := by
  have L := hide (len15 (a : Int) w (by omega) (by omega))
  rw [show ((a : Int)).toNat = a from rfl, h] at L
  have hk : k ≤ 19 := by
    rcases Nat.lt_or_ge 19 k with l | l
    · have := (bitLen_gt a 20).1 (by omega); omega
    · exact l
  have H := hide h
  clear h
  go_enter Try.func14, Try.ntmps14
  go_wp2_with fail
  refine (unhide L).mono ?_
  rintro e w' ⟨rfl, rfl⟩
  go_wp2
  go_ret
  exact ⟨ret_int (by omega), rfl⟩
end Go.Proofs.Ytcmamkoapeadnaa.Val
