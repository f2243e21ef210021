/- Contracts: near.pointOf, isWidth, point.dist, Point, Dist. Conditions: the package's list holds what the program's text lays. -/
import Derived.Test.YtpblcaihikdpmaaDoorNum
import Derived.OwnWalk
namespace Go.Proofs.YtpblcaihikdpmaaDoor.Pts
open Go.ChangeShapes Go.WideShapes Go.ChangeAt Go.RowKit Go.Proofs.YtpblcaihikdpmaaDoor.Core Go.Proofs.YtpblcaihikdpmaaDoor.Num

/-- The list as the program lays it. -/
def Tab (w : World) : Prop := ∀ j, j < 240 → w.cell? ⟨0, j, none⟩ = some (.int .i8 (T j))
theorem Tab.lt {w : World} (h : Tab w) : 0 < w.heap.size := lt_of_cell (h 0 (by omega))
theorem Tab.below {w w' : World} {n : Nat} (h : Tab w) (b : Below n w w') (hn : 0 < n) : Tab w' := fun j hj => (b.cell (p := ⟨0, j, none⟩) hn).trans (h j hj)
theorem Tab.on {w w' : World} (h : Tab w) (b : Below w.heap.size w w') : Tab w' := h.below b h.lt

theorem belowN {b : Nat} {a w : World} (h : Below b a w) (n : Nat) : Below b a (w.drewN n) := ⟨h.os, h.tape, h.output, h.size, h.block⟩

theorem isw16 (x : Int) (w : World) : Calls Tryd.prog 16 #[.int .i64 x] w fun e w' => e = .returned (.bool (wd x)) ∧ w' = w := by
  by_cases h1 : 1 ≤ x
  · by_cases h2 : x ≤ 16384
    · rw [wd_in ⟨h1, h2⟩]
      go_enter Tryd.func16, Tryd.ntmps16
      go_wp2
      go_ret
      exact ⟨rfl, rfl⟩
    · rw [wd_out (fun h => h2 h.2)]
      go_enter Tryd.func16, Tryd.ntmps16
      go_wp2
      go_ret
      exact ⟨rfl, rfl⟩
  · rw [wd_out (fun h => h1 h.1)]
    go_enter Tryd.func16, Tryd.ntmps16
    go_wp2
    go_ret
    exact ⟨rfl, rfl⟩

theorem wrap_small {z : Int} (h : -200000 ≤ z ∧ z ≤ 2000000) : IntKind.i64.wrap z = z := by simp [IntKind.wrap, IntKind.bits, IntKind.signed]; omega

set_option maxHeartbeats 400000 in
theorem dist17 (x y v : Int) (w : World) (h1 : IntKind.i64.wrap (y * v) = y * v) (h2 : IntKind.i64.wrap (x + y * v) = x + y * v) :
    Calls Tryd.prog 17 #[.agg #[.int .i64 x, .int .i64 y], .int .i64 v] w fun e w' => e = .returned (.int .i64 (cut (x + y * v))) ∧ Below w.heap.size w w' := by
  by_cases h3 : 1 < x + y * v
  · have e : cut (x + y * v) = x + y * v := by unfold cut; rw [if_neg (by omega)]
    rw [e]
    clear e
    go_enter Tryd.func17, Tryd.ntmps17
    go_wp2
    go_ret
    exact ⟨rfl, (Below.refl _ _).alloc (Nat.le_refl _) _⟩
  · have e : cut (x + y * v) = 1 := by unfold cut; split <;> omega
    rw [e]
    clear e
    go_enter Tryd.func17, Tryd.ntmps17
    go_wp2
    go_ret
    exact ⟨rfl, (Below.refl _ _).alloc (Nat.le_refl _) _⟩

set_option maxHeartbeats 400000 in
theorem pt14 (m : Nat) (w : World) (hm : m < 120) (t : Tab w) :
    Calls Tryd.prog 14 #[.int .i64 ((m : Int) + 1)] w fun e w' => e = .returned (.agg #[.int .i64 (px m), .int .i64 (py m)]) ∧ Below w.heap.size w w' := by
  have c1 : w.cell? ⟨0, 2 * m, none⟩ = some (.int .i8 (px m)) := t _ (by omega)
  have c2 : w.cell? ⟨0, 2 * m + 1, none⟩ = some (.int .i8 (py m)) := t _ (by omega)
  have hl := t.lt
  have w1 : IntKind.i64.wrap (px m) = px m := wrap_small (by have := px_small m hm; omega)
  have w2 : IntKind.i64.wrap (py m) = py m := wrap_small (by have := py_small m hm; omega)
  clear t
  go_enter Tryd.func14, Tryd.ntmps14
  go_wp2
  go_region
  all_goals go_wp2
  refine bodyPost_ret (results_cell_row rfl _ _ w.heap.size 33 #[.int .i64 (px m), .int .i64 (py m)] (0, 0) _ rfl (Box.made w 33 _) Tryd.underlying33 rfl (by kernel_rfl)) rfl ⟨rfl, ((Below.refl _ _).alloc (Nat.le_refl _) _).drew⟩

set_option maxHeartbeats 400000 in
theorem point7_out (c : Int) (w : World) (h : c < 1 ∨ 120 < c) :
    Calls Tryd.prog 7 #[.int .i64 c] w fun e w' => e = .returned (.tuple #[.int .i64 0, .int .i64 0, .bool false]) ∧ w' = w := by
  by_cases h1 : c < 1
  · clear h
    go_enter Tryd.func7, Tryd.ntmps7
    go_wp2
    go_ret3
    exact ⟨rfl, rfl⟩
  · have h2 : 120 < c := by omega
    clear h
    go_enter Tryd.func7, Tryd.ntmps7
    go_wp2
    go_ret3
    exact ⟨rfl, rfl⟩
set_option maxHeartbeats 400000 in
theorem point7_in (m : Nat) (w : World) (hm : m < 120) (t : Tab w) :
    Calls Tryd.prog 7 #[.int .i64 ((m : Int) + 1)] w fun e w' => e = .returned (.tuple #[.int .i64 (px m), .int .i64 (py m), .bool true]) ∧ Below w.heap.size w w' := by
  have TT := hide t
  have h1 : ¬ (m : Int) + 1 < 1 := by omega
  have h2 : ¬ 120 < (m : Int) + 1 := by omega
  clear t
  go_enter Tryd.func7, Tryd.ntmps7
  go_wp2_with (go_at_call 14; refine (pt14 m w hm (unhide TT)).mono ?_; rintro e w' ⟨rfl, hb⟩; have HB := hide hb; have HS := hide hb.size; clear hb)
  go_quiet (fail)
  go_wp2
  go_ret3
  exact ⟨rfl, belowN ((unhide HB).alloc (unhide HS) _) _⟩
theorem point7 (c : Int) (w : World) (t : Tab w) :
    Calls Tryd.prog 7 #[.int .i64 c] w fun e w' => e = .returned (.tuple #[.int .i64 (X c), .int .i64 (Y c), .bool (B c)]) ∧ Below w.heap.size w w' := by
  by_cases h : c < 1 ∨ 120 < c
  · rw [X_out h, Y_out h, B_out h]
    exact (point7_out c w h).mono fun e w' ⟨he, hw⟩ => ⟨he, hw ▸ Below.refl _ _⟩
  · obtain ⟨m, rfl, hm⟩ : ∃ m : Nat, c = (m : Int) + 1 ∧ m < 120 := ⟨(c - 1).toNat, by omega, by omega⟩
    rw [X_in m hm, Y_in m hm, B_in m hm]
    exact point7_in m w hm t

set_option maxHeartbeats 400000 in
theorem dist10_out (c v : Int) (w : World) (h : ¬ (1 ≤ c ∧ c ≤ 1048576 ∧ wd v = true)) :
    Calls Tryd.prog 10 #[.int .i64 c, .int .i64 v] w fun e w' => e = .returned (.int .i64 0) ∧ w' = w := by
  by_cases h1 : c < 1
  · clear h
    go_enter Tryd.func10, Tryd.ntmps10
    go_wp2
    go_ret
    exact ⟨rfl, rfl⟩
  · by_cases h2 : 1048576 < c
    · clear h
      go_enter Tryd.func10, Tryd.ntmps10
      go_wp2
      go_ret
      exact ⟨rfl, rfl⟩
    · have h3 : wd v = false := by
        cases hv : wd v
        · rfl
        · exact absurd ⟨by omega, by omega, hv⟩ h
      clear h
      go_enter Tryd.func10, Tryd.ntmps10
      go_wp2_with (go_at_call 16; refine (isw16 v w).mono ?_; rintro e w' ⟨rfl, rfl⟩)
      go_ret
      exact ⟨rfl, rfl⟩
set_option maxHeartbeats 400000 in
theorem dist10_far (c v : Int) (w : World) (h1 : ¬ c < 1) (h2 : ¬ 1048576 < c) (h3 : wd v = true) (h4 : 120 < c) :
    Calls Tryd.prog 10 #[.int .i64 c, .int .i64 v] w fun e w' => e = .returned (.int .i64 (c - 120)) ∧ w' = w := by
  go_enter Tryd.func10, Tryd.ntmps10
  go_wp2_with (go_at_call 16; refine (isw16 v w).mono ?_; rintro e w' ⟨rfl, rfl⟩)
  go_ret
  exact ⟨rfl, rfl⟩
theorem dd_wrap (m : Nat) (v : Int) (h3 : wd v = true) : IntKind.i64.wrap (py m * v) = py m * v ∧ IntKind.i64.wrap (px m + py m * v) = px m + py m * v := by
  have h1 := T_all (2 * m)
  have h2 := T_all (2 * m + 1)
  have h4 := mul_all h2 (wd_is h3)
  unfold px py
  exact ⟨wrap_small (by omega), wrap_small (by omega)⟩
theorem pt14' (c : Int) (m : Nat) (w : World) (hc : Hid (c = (m : Int) + 1)) (hm : m < 120) (t : Tab w) :
    Calls Tryd.prog 14 #[.int .i64 c] w fun e w' => e = .returned (.agg #[.int .i64 (px m), .int .i64 (py m)]) ∧ Below w.heap.size w w' := by
  rw [unhide hc]
  exact pt14 m w hm t
set_option maxHeartbeats 400000 in
theorem dist10_near (c : Int) (m : Nat) (v : Int) (w : World) (hc : Hid (c = (m : Int) + 1)) (hm : m < 120) (t : Tab w) (h3 : wd v = true) :
    Calls Tryd.prog 10 #[.int .i64 c, .int .i64 v] w fun e w' => e = .returned (.int .i64 (dd m v)) ∧ Below w.heap.size w w' := by
  have TT := hide t
  have HW := hide (dd_wrap m v h3)
  have h1 : ¬ c < 1 := by have := unhide hc; omega
  have h2 : ¬ 1048576 < c := by have := unhide hc; omega
  have h4 : ¬ 120 < c := by have := unhide hc; omega
  clear t
  go_enter Tryd.func10, Tryd.ntmps10
  go_wp2_with (first | (go_at_call 16; refine (isw16 v w).mono ?_; rintro e w' ⟨rfl, rfl⟩) | (go_at_call 14; refine (pt14' c m _ hc hm (unhide TT)).mono ?_; rintro e w' ⟨rfl, hb⟩; have HB := hide hb; clear hb) | (go_at_call 17; refine (dist17 _ _ v _ (unhide HW).1 (unhide HW).2).mono ?_; rintro e w' ⟨rfl, hb⟩; have HB2 := hide hb; clear hb))
  go_ret
  exact ⟨rfl, (unhide HB).trans ((unhide HB2).mono (unhide HB).size)⟩
theorem dist10 (c v : Int) (w : World) (t : Tab w) :
    Calls Tryd.prog 10 #[.int .i64 c, .int .i64 v] w fun e w' => e = .returned (.int .i64 (D c v)) ∧ Below w.heap.size w w' := by
  by_cases h : 1 ≤ c ∧ c ≤ 1048576 ∧ wd v = true
  · by_cases h4 : 120 < c
    · rw [D_far h4 h.2.1 h.2.2]
      exact (dist10_far c v w (by omega) (by omega) h.2.2 h4).mono fun e w' ⟨he, hw⟩ => ⟨he, hw ▸ Below.refl _ _⟩
    · obtain ⟨m, rfl, hm⟩ : ∃ m : Nat, c = (m : Int) + 1 ∧ m < 120 := ⟨(c - 1).toNat, by omega, by omega⟩
      rw [D_near m v hm h.2.2]
      exact dist10_near _ m v w rfl hm t h.2.2
  · rw [D_out h]
    exact (dist10_out c v w h).mono fun e w' ⟨he, hw⟩ => ⟨he, hw ▸ Below.refl _ _⟩
end Go.Proofs.YtpblcaihikdpmaaDoor.Pts
