/- Contracts: Around and At of guess. Conditions: none where the place is not within; else the image is in memory. -/
import Derived.Test.YtnfokdcoelignaaGImg
import Derived.OwnWalk
import Derived.BigQuiet
namespace Go.Proofs.Ytnfokdcoelignaa.GAro
open Go.ChangeShapes Go.WideShapes Go.ChangeAt Go.RowKit Go.Sort Go.Proofs.Ytnfokdcoelignaa.Core Go.Proofs.Ytnfokdcoelignaa.PNum Go.Proofs.Ytnfokdcoelignaa.PPrt Go.Proofs.Ytnfokdcoelignaa.PFun Go.Proofs.Ytnfokdcoelignaa.PGoo Go.Proofs.Ytnfokdcoelignaa.GGue Go.Proofs.Ytnfokdcoelignaa.GImg

/-- The pixels at the left, above, above at the left, above at the right. -/
def lV (W : Nat) (z : Nat → Nat) (x y : Nat) : Nat := if x = 0 then 0 else z (y * W + x - 1)
def tV (W : Nat) (z : Nat → Nat) (x y : Nat) : Nat := if y = 0 then 0 else z (y * W - W + x)
def uV (W : Nat) (z : Nat → Nat) (x y : Nat) : Nat := if x = 0 ∨ y = 0 then 0 else z (y * W - W + x - 1)
def rV (W : Nat) (z : Nat → Nat) (x y : Nat) : Nat := if x + 1 = W then z (y * W) else if y = 0 then 0 else z (y * W - W + x + 1)
theorem toNat_at (W X Y : Nat) : ((Y : Int) * W + X).toNat = Y * W + X := by rw [← Int.natCast_mul, ← Int.natCast_add, Int.toNat_natCast]
theorem th_at (W : Nat) (z : Nat → Nat) (X Y : Nat) : thV W z X Y = z (Y * W + X) := by rw [thV, if_neg (by omega), toNat_at]
theorem th_x (W : Nat) (z : Nat → Nat) {x : Int} (y : Int) (h : x < 0) : thV W z x y = 0 := by rw [thV, if_pos (.inl h)]
theorem th_y (W : Nat) (z : Nat → Nat) (x : Int) {y : Int} (h : y < 0) : thV W z x y = 0 := by rw [thV, if_pos (.inr h)]
theorem pred_cast (x : Nat) (h : x ≠ 0) : (x : Int) - 1 = ((x - 1 : Nat) : Int) := by omega
theorem row_up (W y : Nat) : (y - 1) * W = y * W - W := by rw [Nat.sub_mul, Nat.one_mul]
theorem row_ge (W y : Nat) (h : y ≠ 0) : W ≤ y * W := Nat.le_mul_of_pos_left W (by omega)
theorem th_l (W : Nat) (z : Nat → Nat) (x y : Nat) : thV W z ((x : Int) - 1) y = lV W z x y := by
  unfold lV
  by_cases h : x = 0
  · rw [if_pos h, th_x _ _ _ (by omega)]
  · rw [if_neg h, pred_cast x h, th_at]; congr 1; omega
theorem th_t (W : Nat) (z : Nat → Nat) (x y : Nat) : thV W z x ((y : Int) - 1) = tV W z x y := by
  unfold tV
  by_cases h : y = 0
  · rw [if_pos h, th_y _ _ _ (by omega)]
  · rw [if_neg h, pred_cast y h, th_at, row_up W y]
theorem th_u (W : Nat) (z : Nat → Nat) (x y : Nat) : thV W z ((x : Int) - 1) ((y : Int) - 1) = uV W z x y := by
  unfold uV
  by_cases hx : x = 0
  · rw [if_pos (.inl hx), th_x _ _ _ (by omega)]
  · by_cases hy : y = 0
    · rw [if_pos (.inr hy), th_y _ _ _ (by omega)]
    · rw [if_neg (by omega), pred_cast x hx, pred_cast y hy, th_at, row_up W y]; congr 1; omega
theorem ar_r (W : Nat) (z : Nat → Nat) (x y : Nat) : arV W z x y = rV W z x y := by
  unfold arV rV
  by_cases h : x + 1 = W
  · rw [if_pos h, if_pos (by omega)]
    exact (th_at W z 0 y).trans (by rw [Nat.add_zero])
  · rw [if_neg h, if_neg (by omega)]
    by_cases hy : y = 0
    · rw [if_pos hy, th_y _ _ _ (by omega)]
    · rw [if_neg hy, pred_cast y hy]
      exact (th_at W z (x + 1) (y - 1)).trans (by rw [row_up W y, Nat.add_assoc])
/-- Four results. -/
def fourV (l t u r : Nat) : Array Value := #[.int .u32 l, .int .u32 t, .int .u32 u, .int .u32 r]
set_option maxHeartbeats 400000 in
theorem around_no (W H x y : Int) (a : Option Addr) (n c : Nat) (w : World) (h : wiV W H n x y = false) :
    Calls Try.prog 42 #[.agg #[.int .i64 W, .int .i64 H, .slice a n c], .int .i64 x, .int .i64 y] w fun e w' => e = .returned (.tuple (fourV 0 0 0 0)) ∧ Below w.heap.size w w' := by
  have BL := hide ((Below.refl w.heap.size w).alloc (Nat.le_refl _) (.cells #[.int .i64 W, .int .i64 H, .slice a n c] 24))
  have HG := hide h
  clear h
  go_enter Try.func42, Try.ntmps42
  go_wp2_with fail
  refine (within23 _ _ _ _ _ _ _ _).mono ?_
  rintro e w1 ⟨rfl, b1⟩
  have B1 := hide (below_two (unhide BL) b1)
  clear b1
  rw [unhide HG]
  go_wp2
  exact bodyPost_ret (results_tmp4 rfl _ _ _) rfl ⟨rfl, unhide B1⟩
set_option maxHeartbeats 1000000 in
theorem around_in {W H b off n : Nat} {z : Nat → Nat} (c X Y : Nat) {w : World} (I : Img w W H b off n z) (hx : X < W) (hy : Y < H) (h : wiV W H n X Y = true) :
    Calls Try.prog 42 #[.agg #[.int .i64 W, .int .i64 H, .slice (some ⟨b, off, none⟩) n c], .int .i64 X, .int .i64 Y] w fun e w' =>
      e = .returned (.tuple (fourV (lV W z X Y) (tV W z X Y) (uV W z X Y) (rV W z X Y))) ∧ Below w.heap.size w w' := by
  have BL := hide ((Below.refl w.heap.size w).alloc (Nat.le_refl _) (.cells #[.int .i64 W, .int .i64 H, .slice (some ⟨b, off, none⟩) n c] 24))
  have BX := hide (Box.made w 24 #[.int .i64 W, .int .i64 H, .slice (some ⟨b, off, none⟩) n c])
  have hW := I.hW
  have hH := I.hH
  have EL := hide (th_l W z X Y)
  have ET := hide (th_t W z X Y)
  have EU := hide (th_u W z X Y)
  have ER := hide (ar_r W z X Y)
  have I0 := hide I
  have HG := hide h
  clear h I
  go_enter Try.func42, Try.ntmps42
  go_wp2_with fail
  refine (within23 _ _ _ _ _ _ _ _).mono ?_
  rintro e w1 ⟨rfl, b1⟩
  obtain ⟨c0, c1, c2⟩ := keep_image (unhide BX) b1
  have B1 := hide (below_two (unhide BL) b1)
  have I1 := hide ((unhide I0).below (unhide B1))
  clear b1
  rw [unhide HG]
  have k0 := cell_regrown c0
  have k1 := cell_regrown c1
  have k2 := cell_regrown c2
  have q1 : ∀ d os, Calls Try.prog 51 #[.agg #[.int .i64 W, .int .i64 H, .slice (some ⟨b, off, none⟩) n c], .int .i64 ((X : Int) - 1), .int .i64 Y] (grow (redrawn w1 d) os) fun e w'' => e = .returned (.int .u32 (thV W z ((X : Int) - 1) Y)) ∧ ∃ p : Regrown, w'' = grow (redrawn w1 p.d) p.os := fun d os =>
    Calls.regrown_of (there24 c _ _ ((unhide I1).below (below_regrown w1 d os)) (by omega) (by omega))
  have q2 : ∀ d os, Calls Try.prog 51 #[.agg #[.int .i64 W, .int .i64 H, .slice (some ⟨b, off, none⟩) n c], .int .i64 X, .int .i64 ((Y : Int) - 1)] (grow (redrawn w1 d) os) fun e w'' => e = .returned (.int .u32 (thV W z X ((Y : Int) - 1))) ∧ ∃ p : Regrown, w'' = grow (redrawn w1 p.d) p.os := fun d os =>
    Calls.regrown_of (there24 c _ _ ((unhide I1).below (below_regrown w1 d os)) (by omega) (by omega))
  have q3 : ∀ d os, Calls Try.prog 51 #[.agg #[.int .i64 W, .int .i64 H, .slice (some ⟨b, off, none⟩) n c], .int .i64 ((X : Int) - 1), .int .i64 ((Y : Int) - 1)] (grow (redrawn w1 d) os) fun e w'' => e = .returned (.int .u32 (thV W z ((X : Int) - 1) ((Y : Int) - 1))) ∧ ∃ p : Regrown, w'' = grow (redrawn w1 p.d) p.os := fun d os =>
    Calls.regrown_of (there24 c _ _ ((unhide I1).below (below_regrown w1 d os)) (by omega) (by omega))
  have q4 : ∀ d os, Calls Try.prog 52 #[.agg #[.int .i64 W, .int .i64 H, .slice (some ⟨b, off, none⟩) n c], .int .i64 X, .int .i64 Y] (grow (redrawn w1 d) os) fun e w'' => e = .returned (.int .u32 (arV W z X Y)) ∧ ∃ p : Regrown, w'' = grow (redrawn w1 p.d) p.os := fun d os =>
    Calls.regrown_of (right25 c X Y ((unhide I1).below (below_regrown w1 d os)) hx hy)
  have Q1 := hide q1
  have Q2 := hide q2
  have Q3 := hide q3
  have Q4 := hide q4
  clear q1 q2 q3 q4
  go_wp2_with fail
  refine wp_region_quiet_below (by kernel_rfl) (by kernel_rfl) ?_
  repeat (go_big_quiet_step (first | (go_at_call 51; with_reducible exact unhide Q1 _ _) | (go_at_call 51; with_reducible exact unhide Q2 _ _) | (go_at_call 51; with_reducible exact unhide Q3 _ _) | (go_at_call 52; with_reducible exact unhide Q4 _ _)))
  refine wpQuiet_nil ?_
  intro _ hw'
  obtain ⟨⟨dq, osq⟩, hw''⟩ := hw'
  subst hw''
  go_wp2
  refine bodyPost_ret (results_tmp4 rfl _ _ _) rfl ⟨?_, below_two (unhide B1) (below_regrown w1 dq osq)⟩
  rw [← unhide EL, ← unhide ET, ← unhide EU, ← unhide ER]
  rfl
end Go.Proofs.Ytnfokdcoelignaa.GAro
