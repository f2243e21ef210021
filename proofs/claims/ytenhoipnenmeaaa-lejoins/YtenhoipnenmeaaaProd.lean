/- Contracts: le.Product and ref.Product answer the same pair, which is told by plain arithmetic. Conditions: the arguments fit int. -/
import Derived.Test.YtenhoipnenmeaaaRows
import Derived.WalkKit
import Derived.ProofKit
import Derived.OpenShut
import Derived.WalkSpells
namespace Go.Proofs.Ytenhoipnenmeaaa.Prod
open Go.ChangeShapes Go.WideShapes Go.ChangeAt Go.RowKit

theorem hide {p : Prop} (h : p) : Hid p := h
theorem unhide {p : Prop} (h : Hid p) : p := h
theorem ret_ib {k : IntKind} {a b : Int} {c d : Bool} (h : a = b) (h' : c = d) : Ending.returned (.tuple #[.int k a, .bool c]) = .returned (.tuple #[.int k b, .bool d]) := by rw [h, h']
/-- Do the two have a product within the bound? -/
def prodB (a b m : Int) : Bool := decide (0 ≤ a ∧ 0 ≤ b ∧ 0 ≤ m ∧ a * b ≤ m)
/-- What is answered beside it. -/
def prodV (a b m : Int) : Int := if 0 ≤ a ∧ 0 ≤ b ∧ 0 ≤ m ∧ a * b ≤ m then a * b else 0

theorem no_of (a b m : Int) (h : a < 0 ∨ b < 0 ∨ m < 0 ∨ m < a * b) : prodB a b m = false ∧ prodV a b m = 0 := by
  have hn : ¬ (0 ≤ a ∧ 0 ≤ b ∧ 0 ≤ m ∧ a * b ≤ m) := by omega
  exact ⟨decide_eq_false hn, if_neg hn⟩
theorem yes_of (a b m : Int) (h : 0 ≤ a ∧ 0 ≤ b ∧ 0 ≤ m ∧ a * b ≤ m) : prodB a b m = true ∧ prodV a b m = a * b := 
  ⟨decide_eq_true h, if_pos h⟩
theorem lt_mul (a b m : Int) (ha : 0 < a) (h : m / a < b) : m < a * b := by
  have := (Int.ediv_lt_iff_lt_mul ha).1 h
  rw [Int.mul_comm]; exact this
theorem mul_le (a b m : Int) (ha : 0 < a) (h : b ≤ m / a) : a * b ≤ m := by
  have := (Int.le_ediv_iff_mul_le ha).1 h
  rw [Int.mul_comm]; exact this

set_option maxHeartbeats 400000 in
theorem prod14 (a b m : Int) (w : World) (wm : m ≤ 9223372036854775807) (wa : a ≤ 9223372036854775807) :
    Calls Try.prog 14 #[.int .i64 a, .int .i64 b, .int .i64 m] w fun e w' => e = .returned (.tuple #[.int .i64 (prodV a b m), .bool (prodB a b m)]) ∧ w' = w := by
  by_cases h : a < 0 ∨ b < 0 ∨ m < 0
  · obtain ⟨h1, h2⟩ := no_of a b m (by omega)
    have H1 := hide h1
    have H2 := hide h2
    clear h1 h2
    go_enter Try.func14, Try.ntmps14
    go_wp2
    all_goals go_ret2
    all_goals exact ⟨ret_ib (unhide H2).symm (unhide H1).symm, rfl⟩
  · have ha : 0 ≤ a := by omega
    have hb : 0 ≤ b := by omega
    have hm : 0 ≤ m := by omega
    clear h
    by_cases h0 : 0 < a
    · have hd : m / a ≤ m := Int.ediv_le_self _ hm
      have hd0 : 0 ≤ m / a := Int.ediv_nonneg hm ha
      by_cases h1 : m / a < b
      · obtain ⟨h1', h2'⟩ := no_of a b m (by have := lt_mul a b m h0 h1; omega)
        have H1 := hide h1'
        have H2 := hide h2'
        clear h1' h2'
        go_enter Try.func14, Try.ntmps14
        go_wp2
        all_goals go_ret2
        all_goals exact ⟨ret_ib (unhide H2).symm (unhide H1).symm, rfl⟩
      · have h1'' : b ≤ m / a := by omega
        have hle := mul_le a b m h0 h1''
        have hnn : 0 ≤ a * b := Int.mul_nonneg ha hb
        obtain ⟨h1', h2'⟩ := yes_of a b m ⟨ha, hb, hm, hle⟩
        have H1 := hide h1'
        have H2 := hide h2'
        clear h1' h2'
        go_enter Try.func14, Try.ntmps14
        go_wp2
        all_goals go_ret2
        all_goals exact ⟨ret_ib (unhide H2).symm (unhide H1).symm, rfl⟩
    · have : a = 0 := by omega
      subst this
      obtain ⟨h1', h2'⟩ := yes_of 0 b m ⟨by omega, hb, hm, by omega⟩
      have H1 := hide h1'
      have H2 := hide h2'
      clear h1' h2'
      go_enter Try.func14, Try.ntmps14
      go_wp2
      all_goals go_ret2
      all_goals exact ⟨ret_ib (by rw [unhide H2]; simp) (unhide H1).symm, rfl⟩
set_option maxHeartbeats 400000 in
theorem prod15 (a b m : Int) (w : World) (wm : m ≤ 9223372036854775807) (wa : a ≤ 9223372036854775807) :
    Calls Try.prog 15 #[.int .i64 a, .int .i64 b, .int .i64 m] w fun e w' => e = .returned (.tuple #[.int .i64 (prodV a b m), .bool (prodB a b m)]) ∧ w' = w := by
  by_cases h : a < 0 ∨ b < 0 ∨ m < 0
  · obtain ⟨h1, h2⟩ := no_of a b m (by omega)
    have H1 := hide h1
    have H2 := hide h2
    clear h1 h2
    go_enter Try.func15, Try.ntmps15
    go_wp2
    all_goals go_ret2
    all_goals exact ⟨ret_ib (unhide H2).symm (unhide H1).symm, rfl⟩
  · have ha : 0 ≤ a := by omega
    have hb : 0 ≤ b := by omega
    have hm : 0 ≤ m := by omega
    clear h
    by_cases h0 : 0 < a
    · have hd : m / a ≤ m := Int.ediv_le_self _ hm
      have hd0 : 0 ≤ m / a := Int.ediv_nonneg hm ha
      by_cases h1 : m / a < b
      · obtain ⟨h1', h2'⟩ := no_of a b m (by have := lt_mul a b m h0 h1; omega)
        have H1 := hide h1'
        have H2 := hide h2'
        clear h1' h2'
        go_enter Try.func15, Try.ntmps15
        go_wp2
        all_goals go_ret2
        all_goals exact ⟨ret_ib (unhide H2).symm (unhide H1).symm, rfl⟩
      · have h1'' : b ≤ m / a := by omega
        have hle := mul_le a b m h0 h1''
        have hnn : 0 ≤ a * b := Int.mul_nonneg ha hb
        obtain ⟨h1', h2'⟩ := yes_of a b m ⟨ha, hb, hm, hle⟩
        have H1 := hide h1'
        have H2 := hide h2'
        clear h1' h2'
        go_enter Try.func15, Try.ntmps15
        go_wp2
        all_goals go_ret2
        all_goals exact ⟨ret_ib (unhide H2).symm (unhide H1).symm, rfl⟩
    · have : a = 0 := by omega
      subst this
      obtain ⟨h1', h2'⟩ := yes_of 0 b m ⟨by omega, hb, hm, by omega⟩
      have H1 := hide h1'
      have H2 := hide h2'
      clear h1' h2'
      go_enter Try.func15, Try.ntmps15
      go_wp2
      all_goals go_ret2
      all_goals exact ⟨ret_ib (by rw [unhide H2]; simp) (unhide H1).symm, rfl⟩
end Go.Proofs.Ytenhoipnenmeaaa.Prod
