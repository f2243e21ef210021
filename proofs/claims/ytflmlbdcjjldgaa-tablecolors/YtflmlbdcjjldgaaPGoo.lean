/- Contracts: Good and isSide, the program's and the document's. Conditions: none on the numbers. -/
import Derived.Test.YtflmlbdcjjldgaaPPrt
import Derived.Deep.RegionWith
namespace Go.Proofs.Ytflmlbdcjjldgaa.PGoo
open Go.ChangeShapes Go.WideShapes Go.ChangeAt Go.RowKit Go.Proofs.Ytflmlbdcjjldgaa.Core Go.Proofs.Ytflmlbdcjjldgaa.PNum Go.Proofs.Ytflmlbdcjjldgaa.PPrt

/-- A side that may be. -/
def sdV (n : Int) : Bool := decide (1 ≤ n ∧ n ≤ 16384)
theorem sdV_yes {n : Int} (h0 : 1 ≤ n) (h1 : n ≤ 16384) : sdV n = true := decide_eq_true ⟨h0, h1⟩
theorem sdV_no {n : Int} (h : n < 1 ∨ 16384 < n) : sdV n = false := decide_eq_false (by omega)
theorem side40 (b : Int) (w : World) :
    Calls Try.prog 38 #[.int .i64 b] w fun e w' => e = .returned (.bool (sdV b)) ∧ w' = w := by
  by_cases h0 : 1 ≤ b
  · by_cases h1 : b ≤ 16384
    · have H := hide (sdV_yes h0 h1)
      go_enter Try.func38, Try.ntmps38
      go_wp2
      go_ret
      exact ⟨ret_bool (unhide H).symm, rfl⟩
    · have H := hide (sdV_no (n := b) (by omega))
      go_enter Try.func38, Try.ntmps38
      go_wp2
      go_ret
      exact ⟨ret_bool (unhide H).symm, rfl⟩
  · have H := hide (sdV_no (n := b) (by omega))
    go_enter Try.func38, Try.ntmps38
    go_wp2
    go_ret
    exact ⟨ret_bool (unhide H).symm, rfl⟩
/-- An image that may be. -/
def gdV (x y : Int) (n : Nat) : Bool := decide (1 ≤ x ∧ x ≤ 16384 ∧ 1 ≤ y ∧ y ≤ 16384 ∧ (n : Int) = x * y)
theorem gdV_x {x : Int} (y : Int) (n : Nat) (h : x < 1 ∨ 16384 < x) : gdV x y n = false := decide_eq_false (by omega)
theorem gdV_y (x : Int) {y : Int} (n : Nat) (h : y < 1 ∨ 16384 < y) : gdV x y n = false := decide_eq_false (by omega)
theorem gdV_in {x y : Int} (n : Nat) (h0 : 1 ≤ x) (h1 : x ≤ 16384) (h2 : 1 ≤ y) (h3 : y ≤ 16384) : gdV x y n = ((n : Int) == x * y) := by
  unfold gdV
  by_cases e : (n : Int) = x * y
  · rw [decide_eq_true ⟨h0, h1, h2, h3, e⟩, e]; simp
  · rw [decide_eq_false (fun h => e h.2.2.2.2)]; simp [e]
theorem mul_wrap {x y : Int} (h0 : 1 ≤ x) (h1 : x ≤ 16384) (h2 : 1 ≤ y) (h3 : y ≤ 16384) : IntKind.i64.wrap (x * y) = x * y := by
  have l : x * y ≤ 16384 * 16384 := Int.mul_le_mul h1 h3 (by omega) (by omega)
  have g : 0 ≤ x * y := Int.mul_nonneg (by omega) (by omega)
  generalize x * y = z at *
  simp [IntKind.wrap, IntKind.bits, IntKind.signed]; omega
set_option maxHeartbeats 400000 in
theorem good24 (x y : Int) (a : Option Addr) (n c : Nat) (w : World) :
    Calls Try.prog 22 #[.agg #[.int .i64 x, .int .i64 y, .slice a n c]] w fun e w' => e = .returned (.bool (gdV x y n)) ∧ Below w.heap.size w w' := by
  by_cases hx : 1 ≤ x ∧ x ≤ 16384
  · by_cases hy : 1 ≤ y ∧ y ≤ 16384
    · have G := hide (gdV_in n hx.1 hx.2 hy.1 hy.2)
      have S1 := hide (sdV_yes hx.1 hx.2)
      have S2 := hide (sdV_yes hy.1 hy.2)
      have M := mul_wrap hx.1 hx.2 hy.1 hy.2
      clear hx hy
      go_enter Try.func22, Try.ntmps22
      go_wp2_with fail
      refine (side40 _ _).mono ?_
      rintro e w' ⟨rfl, rfl⟩
      rw [unhide S1]
      go_wp2_with fail
      refine (side40 _ _).mono ?_
      rintro e w' ⟨rfl, rfl⟩
      rw [unhide S2]
      go_wp2
      go_ret
      exact ⟨ret_bool (unhide G).symm, (Below.refl _ _).alloc (Nat.le_refl _) _⟩
    · have G := hide (gdV_y x (y := y) n (by omega))
      have S1 := hide (sdV_yes hx.1 hx.2)
      have S2 := hide (sdV_no (n := y) (by omega))
      clear hx hy
      go_enter Try.func22, Try.ntmps22
      go_wp2_with fail
      refine (side40 _ _).mono ?_
      rintro e w' ⟨rfl, rfl⟩
      rw [unhide S1]
      go_wp2_with fail
      refine (side40 _ _).mono ?_
      rintro e w' ⟨rfl, rfl⟩
      rw [unhide S2]
      go_wp2
      go_ret
      exact ⟨ret_bool (unhide G).symm, (Below.refl _ _).alloc (Nat.le_refl _) _⟩
  · have G := hide (gdV_x (x := x) y n (by omega))
    have S1 := hide (sdV_no (n := x) (by omega))
    clear hx
    go_enter Try.func22, Try.ntmps22
    go_wp2_with fail
    refine (side40 _ _).mono ?_
    rintro e w' ⟨rfl, rfl⟩
    rw [unhide S1]
    go_wp2
    go_ret
    exact ⟨ret_bool (unhide G).symm, (Below.refl _ _).alloc (Nat.le_refl _) _⟩
set_option maxHeartbeats 400000 in
theorem rgood25 (x y : Int) (a : Option Addr) (n c : Nat) (w : World) :
    Calls Try.prog 24 #[.agg #[.int .i64 x, .int .i64 y, .slice a n c]] w fun e w' => e = .returned (.bool (gdV x y n)) ∧ Below w.heap.size w w' := by
  by_cases hx : 1 ≤ x
  · by_cases hx' : x ≤ 16384
    · by_cases hy : 1 ≤ y
      · by_cases hy' : y ≤ 16384
        · have G := hide (gdV_in n hx hx' hy hy')
          have M := mul_wrap hx hx' hy hy'
          go_enter Try.func24, Try.ntmps24
          go_wp2
          go_ret
          exact ⟨ret_bool (unhide G).symm, (Below.refl _ _).alloc (Nat.le_refl _) _⟩
        · have G := hide (gdV_y x (y := y) n (by omega))
          go_enter Try.func24, Try.ntmps24
          go_wp2
          go_ret
          exact ⟨ret_bool (unhide G).symm, (Below.refl _ _).alloc (Nat.le_refl _) _⟩
      · have G := hide (gdV_y x (y := y) n (by omega))
        go_enter Try.func24, Try.ntmps24
        go_wp2
        go_ret
        exact ⟨ret_bool (unhide G).symm, (Below.refl _ _).alloc (Nat.le_refl _) _⟩
    · have G := hide (gdV_x (x := x) y n (by omega))
      go_enter Try.func24, Try.ntmps24
      go_wp2
      go_ret
      exact ⟨ret_bool (unhide G).symm, (Below.refl _ _).alloc (Nat.le_refl _) _⟩
  · have G := hide (gdV_x (x := x) y n (by omega))
    go_enter Try.func24, Try.ntmps24
    go_wp2
    go_ret
    exact ⟨ret_bool (unhide G).symm, (Below.refl _ _).alloc (Nat.le_refl _) _⟩
end Go.Proofs.Ytflmlbdcjjldgaa.PGoo
