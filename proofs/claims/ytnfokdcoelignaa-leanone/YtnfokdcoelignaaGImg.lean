/- Contracts: there, isWithin, aboveRight of guess; pixels in memory. Conditions: the image may be, the place lies within. -/
import Derived.Test.YtnfokdcoelignaaGGue
import Derived.Lib.QuietBelow
namespace Go.Proofs.Ytnfokdcoelignaa.GImg
open Go.ChangeShapes Go.WideShapes Go.ChangeAt Go.RowKit Go.Proofs.Ytnfokdcoelignaa.Core Go.Proofs.Ytnfokdcoelignaa.PNum Go.Proofs.Ytnfokdcoelignaa.PPrt Go.Proofs.Ytnfokdcoelignaa.PFun Go.Proofs.Ytnfokdcoelignaa.PGoo Go.Proofs.Ytnfokdcoelignaa.GGue

/-- Pixels in memory, from one place on. -/
def Pixs (w : World) (b off n : Nat) (z : Nat → Nat) : Prop := ∀ i, i < n → w.cell? ⟨b, off + i, none⟩ = some (.int .u32 (z i))
theorem Pixs.lt {w : World} {b off n : Nat} {z : Nat → Nat} (h : Pixs w b off n z) (hn : 0 < n) : b < w.heap.size := lt_of_cell (h 0 hn)
theorem Pixs.below {w w' : World} {b off n : Nat} {z : Nat → Nat} (h : Pixs w b off n z) (u : Below w.heap.size w w') : Pixs w' b off n z := fun i hi =>
  (u.cell (p := ⟨b, off + i, none⟩) (lt_of_cell (h i hi))).trans (h i hi)
theorem Pixs.at {w : World} {b off n : Nat} {z : Nat → Nat} (h : Pixs w b off n z) {i j : Nat} (hi : i < n) (e : j = i) : w.cell? ⟨b, off + i, none⟩ = some (.int .u32 (z j)) := e ▸ h i hi
theorem keep_image {w0 w' : World} {g : Nat} {x y s : Value} (BX : Box w0 g 24 #[x, y, s]) (b : Below w0.heap.size w0 w') :
    w'.cell? ⟨g, 0, none⟩ = some x ∧ w'.cell? ⟨g, 1, none⟩ = some y ∧ w'.cell? ⟨g, 2, none⟩ = some s :=
  ⟨((BX.below b BX.lt).cell 0).trans rfl, ((BX.below b BX.lt).cell 1).trans rfl, ((BX.below b BX.lt).cell 2).trans rfl⟩
theorem below_two {a b c : World} (h : Below a.heap.size a b) (k : Below b.heap.size b c) : Below a.heap.size a c := h.trans (k.mono h.size)

theorem there_no (W H x y : Int) (a : Option Addr) (n c : Nat) (w : World) (h : x < 0 ∨ y < 0) :
    Calls Try.prog 51 #[.agg #[.int .i64 W, .int .i64 H, .slice a n c], .int .i64 x, .int .i64 y] w fun e w' => e = .returned (.int .u32 0) ∧ Below w.heap.size w w' := by
  by_cases hx : x < 0
  · clear h
    go_enter Try.func51, Try.ntmps51
    go_wp2
    go_ret
    exact ⟨rfl, (Below.refl _ _).alloc (Nat.le_refl _) _⟩
  · have hy : y < 0 := by omega
    clear h
    go_enter Try.func51, Try.ntmps51
    go_wp2
    go_ret
    exact ⟨rfl, (Below.refl _ _).alloc (Nat.le_refl _) _⟩
theorem there_at (W H : Int) (X Y q b off n c : Nat) (v : Int) (w : World) (M : IntKind.i64.wrap ((Y : Int) * W) = (q : Int)) (hq : q + X < n) (hn : n ≤ 268435456) (hb : b < w.heap.size)
    (hc : w.cell? ⟨b, off + (q + X), none⟩ = some (.int .u32 v)) :
    Calls Try.prog 51 #[.agg #[.int .i64 W, .int .i64 H, .slice (some ⟨b, off, none⟩) n c], .int .i64 X, .int .i64 Y] w fun e w' => e = .returned (.int .u32 v) ∧ Below w.heap.size w w' := by
  go_enter Try.func51, Try.ntmps51
  go_wp2
  go_ret
  exact ⟨rfl, (Below.refl _ _).alloc (Nat.le_refl _) _⟩
/-- The pixel at x, y, or 0 above the image or at its left. -/
def thV (W : Nat) (z : Nat → Nat) (x y : Int) : Nat := if x < 0 ∨ y < 0 then 0 else z (y * W + x).toNat
theorem place_lt {W H X Y : Nat} (hx : X < W) (hy : Y < H) : Y * W + X < W * H := by
  have : (Y + 1) * W ≤ H * W := Nat.mul_le_mul_right _ hy
  rw [Nat.succ_mul] at this
  rw [Nat.mul_comm W H]
  omega
theorem size_le {W H : Nat} (hW : W ≤ 16384) (hH : H ≤ 16384) : W * H ≤ 268435456 := Nat.mul_le_mul hW hH
theorem row_wrap {W H Y : Nat} (hW : W ≤ 16384) (hH : H ≤ 16384) (hy : Y ≤ H) : IntKind.i64.wrap ((Y : Int) * (W : Int)) = ((Y * W : Nat) : Int) := by
  have l : Y * W ≤ 268435456 := Nat.mul_le_mul (Nat.le_trans hy hH) hW
  rw [← Int.natCast_mul]
  generalize Y * W = z at *
  simp [IntKind.wrap, IntKind.bits, IntKind.signed]; omega
/-- An image that may be, in memory. -/
structure Img (w : World) (W H b off n : Nat) (z : Nat → Nat) : Prop where
  hW : W ≤ 16384
  hH : H ≤ 16384
  hn : n = W * H
  px : Pixs w b off n z
theorem Img.below {w w' : World} {W H b off n : Nat} {z : Nat → Nat} (h : Img w W H b off n z) (u : Below w.heap.size w w') : Img w' W H b off n z := ⟨h.hW, h.hH, h.hn, h.px.below u⟩
theorem there24 {W H b off n : Nat} {z : Nat → Nat} (c : Nat) (x y : Int) {w : World} (I : Img w W H b off n z) (hx : x < W) (hy : y < H) :
    Calls Try.prog 51 #[.agg #[.int .i64 W, .int .i64 H, .slice (some ⟨b, off, none⟩) n c], .int .i64 x, .int .i64 y] w fun e w' => e = .returned (.int .u32 (thV W z x y)) ∧ Below w.heap.size w w' := by
  by_cases h : x < 0 ∨ y < 0
  · rw [thV, if_pos h]
    exact there_no W H x y _ n c w h
  · obtain ⟨X, rfl⟩ := Int.eq_ofNat_of_zero_le (a := x) (by omega)
    obtain ⟨Y, rfl⟩ := Int.eq_ofNat_of_zero_le (a := y) (by omega)
    have hX : X < W := by omega
    have hY : Y < H := by omega
    have e : ((Y : Int) * W + X).toNat = Y * W + X := by rw [← Int.natCast_mul, ← Int.natCast_add, Int.toNat_natCast]
    rw [thV, if_neg h, e]
    have hl := place_lt hX hY
    rw [← I.hn] at hl
    exact there_at W H X Y (Y * W) b off n c _ w (row_wrap I.hW I.hH (Nat.le_of_lt hY)) hl (I.hn ▸ size_le I.hW I.hH) (I.px.lt (by omega)) (I.px _ hl)
/-- What stands above at the right. -/
def arV (W : Nat) (z : Nat → Nat) (x y : Int) : Nat := if x = (W : Int) - 1 then thV W z 0 y else thV W z (x + 1) (y - 1)
set_option maxHeartbeats 400000 in
theorem right25 {W H b off n : Nat} {z : Nat → Nat} (c X Y : Nat) {w : World} (I : Img w W H b off n z) (hx : X < W) (hy : Y < H) :
    Calls Try.prog 52 #[.agg #[.int .i64 W, .int .i64 H, .slice (some ⟨b, off, none⟩) n c], .int .i64 X, .int .i64 Y] w fun e w' => e = .returned (.int .u32 (arV W z X Y)) ∧ Below w.heap.size w w' := by
  have hW := I.hW
  have hH := I.hH
  have BL := hide ((Below.refl w.heap.size w).alloc (Nat.le_refl _) (.cells #[.int .i64 W, .int .i64 H, .slice (some ⟨b, off, none⟩) n c] 24))
  have I1 := hide (I.below (unhide BL))
  clear I
  by_cases h : (X : Int) = (W : Int) - 1
  · have E := hide (if_pos h : arV W z X Y = _)
    have T := hide (there24 c 0 Y (unhide I1) (by omega) (by omega))
    have hb : ((X : Int) == (W : Int) - 1) = true := by simpa using h
    clear h
    go_enter Try.func52, Try.ntmps52
    go_wp2_with fail
    refine (unhide T).mono ?_
    rintro e w1 ⟨rfl, b1⟩
    have B1 := hide (below_two (unhide BL) b1)
    clear b1
    go_wp2
    go_ret
    exact ⟨ret_int (congrArg Int.ofNat (unhide E)).symm, unhide B1⟩
  · have E := hide (if_neg h : arV W z X Y = _)
    have T := hide (there24 c (X + 1) (Y - 1) (unhide I1) (by omega) (by omega))
    have hb : ((X : Int) == (W : Int) - 1) = false := by simpa using h
    go_enter Try.func52, Try.ntmps52
    go_wp2_with fail
    refine (unhide T).mono ?_
    rintro e w1 ⟨rfl, b1⟩
    have B1 := hide (below_two (unhide BL) b1)
    clear b1
    go_wp2
    go_ret
    exact ⟨ret_int (congrArg Int.ofNat (unhide E)).symm, unhide B1⟩
/-- Is the place within an image that may be? -/
def wiV (W H : Int) (n : Nat) (x y : Int) : Bool := gdV W H n && decide (0 ≤ x ∧ x < W ∧ 0 ≤ y ∧ y < H)
theorem wi_bad {W H : Int} {n : Nat} (x y : Int) (h : gdV W H n = false) : wiV W H n x y = false := by unfold wiV; rw [h]; rfl
theorem wi_out (W H : Int) (n : Nat) {x y : Int} (h : ¬ (0 ≤ x ∧ x < W ∧ 0 ≤ y ∧ y < H)) : wiV W H n x y = false := by unfold wiV; rw [decide_eq_false h, Bool.and_false]
theorem wi_in {W H : Int} {n : Nat} {x y : Int} (h : gdV W H n = true) (k : 0 ≤ x ∧ x < W ∧ 0 ≤ y ∧ y < H) : wiV W H n x y = true := by unfold wiV; rw [h, decide_eq_true k]; rfl
theorem wi_of {W H : Int} {n : Nat} {x y : Int} (h : wiV W H n x y = true) : gdV W H n = true ∧ 0 ≤ x ∧ x < W ∧ 0 ≤ y ∧ y < H := by
  unfold wiV at h
  rw [Bool.and_eq_true] at h
  exact ⟨h.1, of_decide_eq_true h.2⟩
set_option maxHeartbeats 400000 in
theorem within23 (W H x y : Int) (a : Option Addr) (n c : Nat) (w : World) :
    Calls Try.prog 41 #[.agg #[.int .i64 W, .int .i64 H, .slice a n c], .int .i64 x, .int .i64 y] w fun e w' => e = .returned (.bool (wiV W H n x y)) ∧ Below w.heap.size w w' := by
  have BL := hide ((Below.refl w.heap.size w).alloc (Nat.le_refl _) (.cells #[.int .i64 W, .int .i64 H, .slice a n c] 24))
  have BX := hide (Box.made w 24 #[.int .i64 W, .int .i64 H, .slice a n c])
  rcases Bool.eq_false_or_eq_true (gdV W H n) with hg | hg
  · have HG := hide hg
    by_cases h0 : 0 ≤ x
    · by_cases h1 : x < W
      · by_cases h2 : 0 ≤ y
        · by_cases h3 : y < H
          · have G := hide (wi_in hg ⟨h0, h1, h2, h3⟩)
            clear hg
            go_enter Try.func41, Try.ntmps41
            go_wp2_with fail
            refine (good24 _ _ _ _ _ _).mono ?_
            rintro e w1 ⟨rfl, b1⟩
            obtain ⟨c0, c1, c2⟩ := keep_image (unhide BX) b1
            have B1 := hide (below_two (unhide BL) b1)
            clear b1
            rw [unhide HG]
            clear HG
            go_wp2
            go_ret
            exact ⟨ret_bool (unhide G).symm, unhide B1⟩
          · have G := hide (wi_out W H n (x := x) (y := y) (by omega))
            clear hg
            go_enter Try.func41, Try.ntmps41
            go_wp2_with fail
            refine (good24 _ _ _ _ _ _).mono ?_
            rintro e w1 ⟨rfl, b1⟩
            obtain ⟨c0, c1, c2⟩ := keep_image (unhide BX) b1
            have B1 := hide (below_two (unhide BL) b1)
            clear b1
            rw [unhide HG]
            clear HG
            go_wp2
            go_ret
            exact ⟨ret_bool ((decide_eq_false (Int.not_lt.2 h3)).trans (unhide G).symm), unhide B1⟩
        · have G := hide (wi_out W H n (x := x) (y := y) (by omega))
          clear hg
          go_enter Try.func41, Try.ntmps41
          go_wp2_with fail
          refine (good24 _ _ _ _ _ _).mono ?_
          rintro e w1 ⟨rfl, b1⟩
          obtain ⟨c0, c1, c2⟩ := keep_image (unhide BX) b1
          have B1 := hide (below_two (unhide BL) b1)
          clear b1
          rw [unhide HG]
          clear HG
          go_wp2
          go_ret
          exact ⟨ret_bool (unhide G).symm, unhide B1⟩
      · have G := hide (wi_out W H n (x := x) (y := y) (by omega))
        clear hg
        go_enter Try.func41, Try.ntmps41
        go_wp2_with fail
        refine (good24 _ _ _ _ _ _).mono ?_
        rintro e w1 ⟨rfl, b1⟩
        obtain ⟨c0, c1, c2⟩ := keep_image (unhide BX) b1
        have B1 := hide (below_two (unhide BL) b1)
        clear b1
        rw [unhide HG]
        clear HG
        go_wp2
        go_ret
        exact ⟨ret_bool (unhide G).symm, unhide B1⟩
    · have G := hide (wi_out W H n (x := x) (y := y) (by omega))
      clear hg
      go_enter Try.func41, Try.ntmps41
      go_wp2_with fail
      refine (good24 _ _ _ _ _ _).mono ?_
      rintro e w1 ⟨rfl, b1⟩
      obtain ⟨c0, c1, c2⟩ := keep_image (unhide BX) b1
      have B1 := hide (below_two (unhide BL) b1)
      clear b1
      rw [unhide HG]
      clear HG
      go_wp2
      go_ret
      exact ⟨ret_bool (unhide G).symm, unhide B1⟩
  · have HG := hide hg
    have G := hide (wi_bad x y hg)
    clear hg
    go_enter Try.func41, Try.ntmps41
    go_wp2_with fail
    refine (good24 _ _ _ _ _ _).mono ?_
    rintro e w1 ⟨rfl, b1⟩
    obtain ⟨c0, c1, c2⟩ := keep_image (unhide BX) b1
    have B1 := hide (below_two (unhide BL) b1)
    clear b1
    rw [unhide HG]
    clear HG
    go_wp2
    go_ret
    exact ⟨ret_bool (unhide G).symm, unhide B1⟩
end Go.Proofs.Ytnfokdcoelignaa.GImg
