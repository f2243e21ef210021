/- Contracts: At of guess. Conditions: none where the place is not within; else the image is in memory. -/
import Derived.Test.YtnfokdcoelignaaGAro
namespace Go.Proofs.Ytnfokdcoelignaa.GAtt
open Go.ChangeShapes Go.WideShapes Go.ChangeAt Go.RowKit Go.Sort Go.Proofs.Ytnfokdcoelignaa.Core Go.Proofs.Ytnfokdcoelignaa.PNum Go.Proofs.Ytnfokdcoelignaa.PPrt Go.Proofs.Ytnfokdcoelignaa.PFun Go.Proofs.Ytnfokdcoelignaa.PGoo Go.Proofs.Ytnfokdcoelignaa.GGue Go.Proofs.Ytnfokdcoelignaa.GImg Go.Proofs.Ytnfokdcoelignaa.GAro

/-- What the pixel may be. -/
def atV (W : Nat) (z : Nat → Nat) (m : Int) (x y : Nat) : Nat :=
  if y = 0 then (if x = 0 then 4278190080 else lV W z x y) else if x = 0 then tV W z x y else gsV m (lV W z x y) (tV W z x y) (uV W z x y) (rV W z x y)
theorem at_00 (W : Nat) (z : Nat → Nat) (m : Int) {x y : Nat} (hx : x = 0) (hy : y = 0) : atV W z m x y = 4278190080 := by rw [atV, if_pos hy, if_pos hx]
theorem at_x0 (W : Nat) (z : Nat → Nat) (m : Int) {x y : Nat} (hx : x ≠ 0) (hy : y = 0) : atV W z m x y = lV W z x y := by rw [atV, if_pos hy, if_neg hx]
theorem at_0y (W : Nat) (z : Nat → Nat) (m : Int) {x y : Nat} (hx : x = 0) (hy : y ≠ 0) : atV W z m x y = tV W z x y := by rw [atV, if_neg hy, if_pos hx]
theorem at_xy (W : Nat) (z : Nat → Nat) (m : Int) {x y : Nat} (hx : x ≠ 0) (hy : y ≠ 0) : atV W z m x y = gsV m (lV W z x y) (tV W z x y) (uV W z x y) (rV W z x y) := by rw [atV, if_neg hy, if_neg hx]
set_option maxHeartbeats 400000 in
theorem at_no (W H m x y : Int) (a : Option Addr) (n c : Nat) (w : World) (h : wiV W H n x y = false) :
    Calls Try.prog 23 #[.agg #[.int .i64 W, .int .i64 H, .slice a n c], .int .i64 m, .int .i64 x, .int .i64 y] w fun e w' => e = .returned (.int .u32 0) ∧ Below w.heap.size w w' := by
  have BL := hide ((Below.refl w.heap.size w).alloc (Nat.le_refl _) (.cells #[.int .i64 W, .int .i64 H, .slice a n c] 24))
  have HG := hide h
  clear h
  go_enter Try.func23, Try.ntmps23
  go_wp2_with fail
  refine (within23 _ _ _ _ _ _ _ _).mono ?_
  rintro e w1 ⟨rfl, b1⟩
  have B1 := hide (below_two (unhide BL) b1)
  clear b1
  rw [unhide HG]
  go_wp2
  go_ret
  exact ⟨rfl, unhide B1⟩
set_option maxHeartbeats 1000000 in
theorem at_in {W H b off n : Nat} {z : Nat → Nat} (c : Nat) (m : Int) (X Y : Nat) {w : World} (I : Img w W H b off n z) (hx : X < W) (hy : Y < H) (h : wiV W H n X Y = true) :
    Calls Try.prog 23 #[.agg #[.int .i64 W, .int .i64 H, .slice (some ⟨b, off, none⟩) n c], .int .i64 m, .int .i64 X, .int .i64 Y] w fun e w' =>
      e = .returned (.int .u32 (atV W z m X Y)) ∧ Below w.heap.size w w' := by
  have BL := hide ((Below.refl w.heap.size w).alloc (Nat.le_refl _) (.cells #[.int .i64 W, .int .i64 H, .slice (some ⟨b, off, none⟩) n c] 24))
  have BX := hide (Box.made w 24 #[.int .i64 W, .int .i64 H, .slice (some ⟨b, off, none⟩) n c])
  have I0 := hide I
  have HG := hide h
  have HX := hide hx
  have HY := hide hy
  clear h I hx hy
  by_cases hX : X = 0
  · by_cases hY : Y = 0
    · have E := hide (at_00 W z m hX hY)
      have hx1 : ((X : Int) == 0) = true := by simpa using hX
      have hy1 : ((Y : Int) == 0) = true := by simpa using hY
      clear hX hY
      generalize atV W z m X Y = v at *
      go_enter Try.func23, Try.ntmps23
      go_wp2_with fail
      refine (within23 _ _ _ _ _ _ _ _).mono ?_
      rintro e w1 ⟨rfl, b1⟩
      obtain ⟨c0, c1, c2⟩ := keep_image (unhide BX) b1
      have B1 := hide (below_two (unhide BL) b1)
      clear b1
      rw [unhide HG]
      go_wp2_with fail
      refine (around_in c X Y ((unhide I0).below (unhide B1)) (unhide HX) (unhide HY) (unhide HG)).mono ?_
      rintro e w2 ⟨rfl, b2⟩
      have B2 := hide (below_two (unhide B1) b2)
      clear b2
      unfold fourV
      generalize lV W z X Y = l at *
      generalize tV W z X Y = t at *
      generalize uV W z X Y = u at *
      generalize rV W z X Y = r at *
      go_wp2
      go_ret
      exact ⟨ret_int (congrArg Int.ofNat (unhide E)).symm, unhide B2⟩
    · have E := hide (at_0y W z m hX hY)
      have hx1 : ((X : Int) == 0) = true := by simpa using hX
      have hy1 : ((Y : Int) == 0) = false := by simpa using hY
      clear hX hY
      generalize atV W z m X Y = v at *
      go_enter Try.func23, Try.ntmps23
      go_wp2_with fail
      refine (within23 _ _ _ _ _ _ _ _).mono ?_
      rintro e w1 ⟨rfl, b1⟩
      obtain ⟨c0, c1, c2⟩ := keep_image (unhide BX) b1
      have B1 := hide (below_two (unhide BL) b1)
      clear b1
      rw [unhide HG]
      go_wp2_with fail
      refine (around_in c X Y ((unhide I0).below (unhide B1)) (unhide HX) (unhide HY) (unhide HG)).mono ?_
      rintro e w2 ⟨rfl, b2⟩
      have B2 := hide (below_two (unhide B1) b2)
      clear b2
      unfold fourV
      generalize lV W z X Y = l at *
      generalize tV W z X Y = t at *
      generalize uV W z X Y = u at *
      generalize rV W z X Y = r at *
      go_wp2
      go_ret
      exact ⟨ret_int (congrArg Int.ofNat (unhide E)).symm, unhide B2⟩
  · by_cases hY : Y = 0
    · have E := hide (at_x0 W z m hX hY)
      have hx1 : ((X : Int) == 0) = false := by simpa using hX
      have hy1 : ((Y : Int) == 0) = true := by simpa using hY
      clear hX hY
      generalize atV W z m X Y = v at *
      go_enter Try.func23, Try.ntmps23
      go_wp2_with fail
      refine (within23 _ _ _ _ _ _ _ _).mono ?_
      rintro e w1 ⟨rfl, b1⟩
      obtain ⟨c0, c1, c2⟩ := keep_image (unhide BX) b1
      have B1 := hide (below_two (unhide BL) b1)
      clear b1
      rw [unhide HG]
      go_wp2_with fail
      refine (around_in c X Y ((unhide I0).below (unhide B1)) (unhide HX) (unhide HY) (unhide HG)).mono ?_
      rintro e w2 ⟨rfl, b2⟩
      have B2 := hide (below_two (unhide B1) b2)
      clear b2
      unfold fourV
      generalize lV W z X Y = l at *
      generalize tV W z X Y = t at *
      generalize uV W z X Y = u at *
      generalize rV W z X Y = r at *
      go_wp2
      go_ret
      exact ⟨ret_int (congrArg Int.ofNat (unhide E)).symm, unhide B2⟩
    · have E := hide (at_xy W z m hX hY)
      have hx1 : ((X : Int) == 0) = false := by simpa using hX
      have hy1 : ((Y : Int) == 0) = false := by simpa using hY
      clear hX hY
      generalize atV W z m X Y = v at *
      go_enter Try.func23, Try.ntmps23
      go_wp2_with fail
      refine (within23 _ _ _ _ _ _ _ _).mono ?_
      rintro e w1 ⟨rfl, b1⟩
      obtain ⟨c0, c1, c2⟩ := keep_image (unhide BX) b1
      have B1 := hide (below_two (unhide BL) b1)
      clear b1
      rw [unhide HG]
      go_wp2_with fail
      refine (around_in c X Y ((unhide I0).below (unhide B1)) (unhide HX) (unhide HY) (unhide HG)).mono ?_
      rintro e w2 ⟨rfl, b2⟩
      have B2 := hide (below_two (unhide B1) b2)
      clear b2
      unfold fourV
      generalize lV W z X Y = l at *
      generalize tV W z X Y = t at *
      generalize uV W z X Y = u at *
      generalize rV W z X Y = r at *
      go_wp2_with fail
      refine (guess8 m l t u r _).mono ?_
      rintro e w3 ⟨rfl, b3⟩
      have B3 := hide (below_two (unhide B2) b3)
      clear b3
      go_wp2
      go_ret
      exact ⟨ret_int (congrArg Int.ofNat (unhide E)).symm, unhide B3⟩
end Go.Proofs.Ytnfokdcoelignaa.GAtt
