/- Contract: the document's Unpacked, of what may not be. No conditions. -/
import Derived.Test.YtflmlbdcjjldgaaTRun
namespace Go.Proofs.Ytflmlbdcjjldgaa.TRno
set_option linter.unusedVariables false
open Go.ChangeShapes Go.WideShapes Go.ChangeAt Go.RowKit Go.Maps Go.Sort Go.Proofs.Ytflmlbdcjjldgaa.Core Go.Proofs.Ytflmlbdcjjldgaa.LBlk Go.Proofs.Ytflmlbdcjjldgaa.PNum Go.Proofs.Ytflmlbdcjjldgaa.PPrt Go.Proofs.Ytflmlbdcjjldgaa.PGoo Go.Proofs.Ytflmlbdcjjldgaa.Ims Go.Proofs.Ytflmlbdcjjldgaa.IApp Go.Proofs.Ytflmlbdcjjldgaa.TNum Go.Proofs.Ytflmlbdcjjldgaa.TLea

/-- No image, and no. -/
def UNo (w : World) (e : Ending) (w' : World) : Prop := e = .returned (.tuple #[.agg #[.int .i64 0, .int .i64 0, .slice none 0 0], .bool false]) ∧ Below w.heap.size w w'
set_option maxHeartbeats 1000000 in
theorem rno_img {W H : Int} {x : Int} (a a' : Option Addr) (n c m c' : Nat) (w : World) (hg : gdV W H n = false) :
    Calls Try.prog 20 #[.agg #[.int .i64 W, .int .i64 H, .slice a n c], .slice a' m c', .int .i64 x] w fun e w' => UNo w e w' := by
  have G := hide (fun w1 => rgood25 W H a n c w1)
  rw [hg] at G
  have PK := hide (fun w1 => rpack14 (m : Int) w1)
  have BX := hide (two_boxes w #[.int .i64 W, .int .i64 H, .slice a n c] #[.int .i64 0, .int .i64 0, .slice none 0 0] 24 24)
  have BL := hide (bel_a2 w (.cells #[.int .i64 W, .int .i64 H, .slice a n c] 24) (.cells #[.int .i64 0, .int .i64 0, .slice none 0 0] 24))
  go_enter Try.func20, Try.ntmps20
  go_wp2_with fail
  refine (unhide PK _).mono ?_
  rintro e w1 ⟨rfl, rfl⟩
  generalize (w.alloc (.cells #[.int .i64 W, .int .i64 H, .slice a n c] 24)).alloc (.cells #[.int .i64 0, .int .i64 0, .slice none 0 0] 24) = w2 at *
  obtain ⟨⟨i0, i1, i2⟩, _⟩ := box_cells (unhide BX).1
  have hgm := (unhide BX).1.lt
  go_upto_region 2 with fail
  have k0 := cell_regrown i0
  have k1 := cell_regrown i1
  have k2 := cell_regrown i2
  have q1 : ∀ dd os, Calls Try.prog 24 #[.agg #[.int .i64 W, .int .i64 H, .slice a n c]] (grow (redrawn w2 dd) os) fun e w'' => e = .returned (.bool false) ∧ ∃ p : Regrown, w'' = grow (redrawn w2 p.d) p.os := fun dd os => Calls.regrown_of (unhide G _)
  have Q1 := hide q1
  clear q1
  refine wp_region_quiet_below (by kernel_rfl) (by kernel_rfl) ?_
  repeat (go_big_quiet_step (first | (go_at_call 24; with_reducible exact unhide Q1 _ _)))
  refine wpQuiet_nil ?_
  intro _ hw'
  obtain ⟨⟨dq, osq⟩, hw''⟩ := hw'
  subst hw''
  have S3 := below_regrown w2 dq osq
  obtain ⟨⟨r0, r1, r2⟩, e0, e1, e2⟩ := box_cells ((unhide BX).2.below S3 (unhide BX).2.lt)
  generalize grow (redrawn w2 dq) osq = w3 at *
  clear k0 k1 k2 Q1
  all_goals
    go_wp2
    have B3 := box3 (x := .int .i64 0) (y := .int .i64 0) (s := .slice none 0 0) ((unhide BX).2.below S3 (unhide BX).2.lt)
    exact bodyPost_ret (results_row_tmp rfl _ _ (w.heap.size + 1) 24 #[.int .i64 0, .int .i64 0, .slice none 0 0] (0, 0) _ rfl B3 Try.underlying24 rfl (by kernel_rfl)) rfl ⟨rfl, below3 (bel_into (unhide BL) S3) (by omega)⟩
set_option maxHeartbeats 1000000 in
theorem rno_few {W H : Int} {x : Int} (a a' : Option Addr) (n c m c' : Nat) (w : World) (hg : gdV W H n = true) (ht : m < 1) :
    Calls Try.prog 20 #[.agg #[.int .i64 W, .int .i64 H, .slice a n c], .slice a' m c', .int .i64 x] w fun e w' => UNo w e w' := by
  have G := hide (fun w1 => rgood25 W H a n c w1)
  rw [hg] at G
  have PK := hide (fun w1 => rpack14 (m : Int) w1)
  have BX := hide (two_boxes w #[.int .i64 W, .int .i64 H, .slice a n c] #[.int .i64 0, .int .i64 0, .slice none 0 0] 24 24)
  have BL := hide (bel_a2 w (.cells #[.int .i64 W, .int .i64 H, .slice a n c] 24) (.cells #[.int .i64 0, .int .i64 0, .slice none 0 0] 24))
  have hd1 : decide ((m : Int) < 1) = true := decide_eq_true (by omega)
  go_enter Try.func20, Try.ntmps20
  go_wp2_with fail
  refine (unhide PK _).mono ?_
  rintro e w1 ⟨rfl, rfl⟩
  generalize (w.alloc (.cells #[.int .i64 W, .int .i64 H, .slice a n c] 24)).alloc (.cells #[.int .i64 0, .int .i64 0, .slice none 0 0] 24) = w2 at *
  obtain ⟨⟨i0, i1, i2⟩, _⟩ := box_cells (unhide BX).1
  have hgm := (unhide BX).1.lt
  go_upto_region 2 with fail
  have k0 := cell_regrown i0
  have k1 := cell_regrown i1
  have k2 := cell_regrown i2
  have q1 : ∀ dd os, Calls Try.prog 24 #[.agg #[.int .i64 W, .int .i64 H, .slice a n c]] (grow (redrawn w2 dd) os) fun e w'' => e = .returned (.bool true) ∧ ∃ p : Regrown, w'' = grow (redrawn w2 p.d) p.os := fun dd os => Calls.regrown_of (unhide G _)
  have Q1 := hide q1
  clear q1
  refine wp_region_quiet_below (by kernel_rfl) (by kernel_rfl) ?_
  repeat (go_big_quiet_step (first | (go_at_call 24; with_reducible exact unhide Q1 _ _)))
  refine wpQuiet_nil ?_
  intro _ hw'
  obtain ⟨⟨dq, osq⟩, hw''⟩ := hw'
  subst hw''
  have S3 := below_regrown w2 dq osq
  obtain ⟨⟨r0, r1, r2⟩, e0, e1, e2⟩ := box_cells ((unhide BX).2.below S3 (unhide BX).2.lt)
  generalize grow (redrawn w2 dq) osq = w3 at *
  clear k0 k1 k2 Q1
  all_goals
    go_wp2
    have B3 := box3 (x := .int .i64 0) (y := .int .i64 0) (s := .slice none 0 0) ((unhide BX).2.below S3 (unhide BX).2.lt)
    exact bodyPost_ret (results_row_tmp rfl _ _ (w.heap.size + 1) 24 #[.int .i64 0, .int .i64 0, .slice none 0 0] (0, 0) _ rfl B3 Try.underlying24 rfl (by kernel_rfl)) rfl ⟨rfl, below3 (bel_into (unhide BL) S3) (by omega)⟩
set_option maxHeartbeats 1000000 in
theorem rno_many {W H : Int} {x : Int} (a a' : Option Addr) (n c m c' : Nat) (w : World) (hg : gdV W H n = true) (ht : 256 < m) :
    Calls Try.prog 20 #[.agg #[.int .i64 W, .int .i64 H, .slice a n c], .slice a' m c', .int .i64 x] w fun e w' => UNo w e w' := by
  have G := hide (fun w1 => rgood25 W H a n c w1)
  rw [hg] at G
  have PK := hide (fun w1 => rpack14 (m : Int) w1)
  have BX := hide (two_boxes w #[.int .i64 W, .int .i64 H, .slice a n c] #[.int .i64 0, .int .i64 0, .slice none 0 0] 24 24)
  have BL := hide (bel_a2 w (.cells #[.int .i64 W, .int .i64 H, .slice a n c] 24) (.cells #[.int .i64 0, .int .i64 0, .slice none 0 0] 24))
  have hd1 : decide ((m : Int) < 1) = false := decide_eq_false (by omega)
  have hd2 : decide ((256 : Int) < (m : Int)) = true := decide_eq_true (by omega)
  go_enter Try.func20, Try.ntmps20
  go_wp2_with fail
  refine (unhide PK _).mono ?_
  rintro e w1 ⟨rfl, rfl⟩
  generalize (w.alloc (.cells #[.int .i64 W, .int .i64 H, .slice a n c] 24)).alloc (.cells #[.int .i64 0, .int .i64 0, .slice none 0 0] 24) = w2 at *
  obtain ⟨⟨i0, i1, i2⟩, _⟩ := box_cells (unhide BX).1
  have hgm := (unhide BX).1.lt
  go_upto_region 2 with fail
  have k0 := cell_regrown i0
  have k1 := cell_regrown i1
  have k2 := cell_regrown i2
  have q1 : ∀ dd os, Calls Try.prog 24 #[.agg #[.int .i64 W, .int .i64 H, .slice a n c]] (grow (redrawn w2 dd) os) fun e w'' => e = .returned (.bool true) ∧ ∃ p : Regrown, w'' = grow (redrawn w2 p.d) p.os := fun dd os => Calls.regrown_of (unhide G _)
  have Q1 := hide q1
  clear q1
  refine wp_region_quiet_below (by kernel_rfl) (by kernel_rfl) ?_
  repeat (go_big_quiet_step (first | (go_at_call 24; with_reducible exact unhide Q1 _ _)))
  refine wpQuiet_nil ?_
  intro _ hw'
  obtain ⟨⟨dq, osq⟩, hw''⟩ := hw'
  subst hw''
  have S3 := below_regrown w2 dq osq
  obtain ⟨⟨r0, r1, r2⟩, e0, e1, e2⟩ := box_cells ((unhide BX).2.below S3 (unhide BX).2.lt)
  generalize grow (redrawn w2 dq) osq = w3 at *
  clear k0 k1 k2 Q1
  all_goals
    go_wp2
    have B3 := box3 (x := .int .i64 0) (y := .int .i64 0) (s := .slice none 0 0) ((unhide BX).2.below S3 (unhide BX).2.lt)
    exact bodyPost_ret (results_row_tmp rfl _ _ (w.heap.size + 1) 24 #[.int .i64 0, .int .i64 0, .slice none 0 0] (0, 0) _ rfl B3 Try.underlying24 rfl (by kernel_rfl)) rfl ⟨rfl, below3 (bel_into (unhide BL) S3) (by omega)⟩
set_option maxHeartbeats 1000000 in
theorem rno_thin {W H : Int} {x : Int} (a a' : Option Addr) (n c m c' : Nat) (w : World) (hg : gdV W H n = true) (t1 : 1 ≤ m) (t2 : m ≤ 256) (hx : x < 1) :
    Calls Try.prog 20 #[.agg #[.int .i64 W, .int .i64 H, .slice a n c], .slice a' m c', .int .i64 x] w fun e w' => UNo w e w' := by
  have G := hide (fun w1 => rgood25 W H a n c w1)
  rw [hg] at G
  have PK := hide (fun w1 => rpack14 (m : Int) w1)
  have BX := hide (two_boxes w #[.int .i64 W, .int .i64 H, .slice a n c] #[.int .i64 0, .int .i64 0, .slice none 0 0] 24 24)
  have BL := hide (bel_a2 w (.cells #[.int .i64 W, .int .i64 H, .slice a n c] 24) (.cells #[.int .i64 0, .int .i64 0, .slice none 0 0] 24))
  have hd1 : decide ((m : Int) < 1) = false := decide_eq_false (by omega)
  have hd2 : decide ((256 : Int) < (m : Int)) = false := decide_eq_false (by omega)
  have hd3 : decide ((x : Int) < 1) = true := decide_eq_true (by omega)
  go_enter Try.func20, Try.ntmps20
  go_wp2_with fail
  refine (unhide PK _).mono ?_
  rintro e w1 ⟨rfl, rfl⟩
  generalize (w.alloc (.cells #[.int .i64 W, .int .i64 H, .slice a n c] 24)).alloc (.cells #[.int .i64 0, .int .i64 0, .slice none 0 0] 24) = w2 at *
  obtain ⟨⟨i0, i1, i2⟩, _⟩ := box_cells (unhide BX).1
  have hgm := (unhide BX).1.lt
  go_upto_region 2 with fail
  have k0 := cell_regrown i0
  have k1 := cell_regrown i1
  have k2 := cell_regrown i2
  have q1 : ∀ dd os, Calls Try.prog 24 #[.agg #[.int .i64 W, .int .i64 H, .slice a n c]] (grow (redrawn w2 dd) os) fun e w'' => e = .returned (.bool true) ∧ ∃ p : Regrown, w'' = grow (redrawn w2 p.d) p.os := fun dd os => Calls.regrown_of (unhide G _)
  have Q1 := hide q1
  clear q1
  refine wp_region_quiet_below (by kernel_rfl) (by kernel_rfl) ?_
  repeat (go_big_quiet_step (first | (go_at_call 24; with_reducible exact unhide Q1 _ _)))
  refine wpQuiet_nil ?_
  intro _ hw'
  obtain ⟨⟨dq, osq⟩, hw''⟩ := hw'
  subst hw''
  have S3 := below_regrown w2 dq osq
  obtain ⟨⟨r0, r1, r2⟩, e0, e1, e2⟩ := box_cells ((unhide BX).2.below S3 (unhide BX).2.lt)
  generalize grow (redrawn w2 dq) osq = w3 at *
  clear k0 k1 k2 Q1
  all_goals
    go_wp2
    have B3 := box3 (x := .int .i64 0) (y := .int .i64 0) (s := .slice none 0 0) ((unhide BX).2.below S3 (unhide BX).2.lt)
    exact bodyPost_ret (results_row_tmp rfl _ _ (w.heap.size + 1) 24 #[.int .i64 0, .int .i64 0, .slice none 0 0] (0, 0) _ rfl B3 Try.underlying24 rfl (by kernel_rfl)) rfl ⟨rfl, below3 (bel_into (unhide BL) S3) (by omega)⟩
set_option maxHeartbeats 1000000 in
theorem rno_wide {W H : Int} {x : Int} (a a' : Option Addr) (n c m c' : Nat) (w : World) (hg : gdV W H n = true) (t1 : 1 ≤ m) (t2 : m ≤ 256) (hx : 16384 < x) :
    Calls Try.prog 20 #[.agg #[.int .i64 W, .int .i64 H, .slice a n c], .slice a' m c', .int .i64 x] w fun e w' => UNo w e w' := by
  have G := hide (fun w1 => rgood25 W H a n c w1)
  rw [hg] at G
  have PK := hide (fun w1 => rpack14 (m : Int) w1)
  have BX := hide (two_boxes w #[.int .i64 W, .int .i64 H, .slice a n c] #[.int .i64 0, .int .i64 0, .slice none 0 0] 24 24)
  have BL := hide (bel_a2 w (.cells #[.int .i64 W, .int .i64 H, .slice a n c] 24) (.cells #[.int .i64 0, .int .i64 0, .slice none 0 0] 24))
  have hd1 : decide ((m : Int) < 1) = false := decide_eq_false (by omega)
  have hd2 : decide ((256 : Int) < (m : Int)) = false := decide_eq_false (by omega)
  have hd3 : decide ((x : Int) < 1) = false := decide_eq_false (by omega)
  have hd4 : decide ((16384 : Int) < (x : Int)) = true := decide_eq_true (by omega)
  go_enter Try.func20, Try.ntmps20
  go_wp2_with fail
  refine (unhide PK _).mono ?_
  rintro e w1 ⟨rfl, rfl⟩
  generalize (w.alloc (.cells #[.int .i64 W, .int .i64 H, .slice a n c] 24)).alloc (.cells #[.int .i64 0, .int .i64 0, .slice none 0 0] 24) = w2 at *
  obtain ⟨⟨i0, i1, i2⟩, _⟩ := box_cells (unhide BX).1
  have hgm := (unhide BX).1.lt
  go_upto_region 2 with fail
  have k0 := cell_regrown i0
  have k1 := cell_regrown i1
  have k2 := cell_regrown i2
  have q1 : ∀ dd os, Calls Try.prog 24 #[.agg #[.int .i64 W, .int .i64 H, .slice a n c]] (grow (redrawn w2 dd) os) fun e w'' => e = .returned (.bool true) ∧ ∃ p : Regrown, w'' = grow (redrawn w2 p.d) p.os := fun dd os => Calls.regrown_of (unhide G _)
  have Q1 := hide q1
  clear q1
  refine wp_region_quiet_below (by kernel_rfl) (by kernel_rfl) ?_
  repeat (go_big_quiet_step (first | (go_at_call 24; with_reducible exact unhide Q1 _ _)))
  refine wpQuiet_nil ?_
  intro _ hw'
  obtain ⟨⟨dq, osq⟩, hw''⟩ := hw'
  subst hw''
  have S3 := below_regrown w2 dq osq
  obtain ⟨⟨r0, r1, r2⟩, e0, e1, e2⟩ := box_cells ((unhide BX).2.below S3 (unhide BX).2.lt)
  generalize grow (redrawn w2 dq) osq = w3 at *
  clear k0 k1 k2 Q1
  all_goals
    go_wp2
    have B3 := box3 (x := .int .i64 0) (y := .int .i64 0) (s := .slice none 0 0) ((unhide BX).2.below S3 (unhide BX).2.lt)
    exact bodyPost_ret (results_row_tmp rfl _ _ (w.heap.size + 1) 24 #[.int .i64 0, .int .i64 0, .slice none 0 0] (0, 0) _ rfl B3 Try.underlying24 rfl (by kernel_rfl)) rfl ⟨rfl, below3 (bel_into (unhide BL) S3) (by omega)⟩
set_option maxHeartbeats 1000000 in
theorem rno_cols {W H : Int} {x : Nat} (a a' : Option Addr) (n c m c' : Nat) (w : World) (hg : gdV W H n = true) (t1 : 1 ≤ m) (t2 : m ≤ 256) (x1 : 1 ≤ x) (x2 : x ≤ 16384) (hx : W ≠ (bl x (bv m) : Nat)) :
    Calls Try.prog 20 #[.agg #[.int .i64 W, .int .i64 H, .slice a n c], .slice a' m c', .int .i64 x] w fun e w' => UNo w e w' := by
  have G := hide (fun w1 => rgood25 W H a n c w1)
  rw [hg] at G
  have PK := hide (fun w1 => rpack14 (m : Int) w1)
  have BX := hide (two_boxes w #[.int .i64 W, .int .i64 H, .slice a n c] #[.int .i64 0, .int .i64 0, .slice none 0 0] 24 24)
  have BL := hide (bel_a2 w (.cells #[.int .i64 W, .int .i64 H, .slice a n c] 24) (.cells #[.int .i64 0, .int .i64 0, .slice none 0 0] 24))
  have hd1 : decide ((m : Int) < 1) = false := decide_eq_false (by omega)
  have hd2 : decide ((256 : Int) < (m : Int)) = false := decide_eq_false (by omega)
  have hd3 : decide ((x : Int) < 1) = false := decide_eq_false (by omega)
  have hd4 : decide ((16384 : Int) < (x : Int)) = false := decide_eq_false (by omega)
  have BK := hide (fun w1 => rblk16 x (bv m) w1 x2 (Nat.le_trans (bv_le _) (by omega)))
  rw [show bvI (m : Int) = bv m from rfl] at PK
  generalize bl x (bv m) = y at *
  have hyb : ((y : Int) != W) = true := by simp; exact fun e => hx e.symm
  go_enter Try.func20, Try.ntmps20
  go_wp2_with fail
  refine (unhide PK _).mono ?_
  rintro e w1 ⟨rfl, rfl⟩
  generalize (w.alloc (.cells #[.int .i64 W, .int .i64 H, .slice a n c] 24)).alloc (.cells #[.int .i64 0, .int .i64 0, .slice none 0 0] 24) = w2 at *
  obtain ⟨⟨i0, i1, i2⟩, _⟩ := box_cells (unhide BX).1
  have hgm := (unhide BX).1.lt
  go_upto_region 2 with fail
  have k0 := cell_regrown i0
  have k1 := cell_regrown i1
  have k2 := cell_regrown i2
  have q1 : ∀ dd os, Calls Try.prog 24 #[.agg #[.int .i64 W, .int .i64 H, .slice a n c]] (grow (redrawn w2 dd) os) fun e w'' => e = .returned (.bool true) ∧ ∃ p : Regrown, w'' = grow (redrawn w2 p.d) p.os := fun dd os => Calls.regrown_of (unhide G _)
  have Q1 := hide q1
  clear q1
  have q2 : ∀ dd os, Calls Try.prog 36 #[.int .i64 x, .int .i64 (bv m)] (grow (redrawn w2 dd) os) fun e w'' => e = .returned (.int .i64 y) ∧ ∃ p : Regrown, w'' = grow (redrawn w2 p.d) p.os := fun dd os => (unhide BK _).mono fun e w'' h => ⟨h.1, ⟨dd, os⟩, h.2⟩
  have Q2 := hide q2
  clear q2
  refine wp_region_quiet_below (by kernel_rfl) (by kernel_rfl) ?_
  repeat (go_big_quiet_step (first | (go_at_call 24; with_reducible exact unhide Q1 _ _) | (go_at_call 36; with_reducible exact unhide Q2 _ _)))
  refine wpQuiet_nil ?_
  intro _ hw'
  obtain ⟨⟨dq, osq⟩, hw''⟩ := hw'
  subst hw''
  have S3 := below_regrown w2 dq osq
  obtain ⟨⟨r0, r1, r2⟩, e0, e1, e2⟩ := box_cells ((unhide BX).2.below S3 (unhide BX).2.lt)
  generalize grow (redrawn w2 dq) osq = w3 at *
  clear k0 k1 k2 Q1
  all_goals
    go_wp2
    have B3 := box3 (x := .int .i64 0) (y := .int .i64 0) (s := .slice none 0 0) ((unhide BX).2.below S3 (unhide BX).2.lt)
    exact bodyPost_ret (results_row_tmp rfl _ _ (w.heap.size + 1) 24 #[.int .i64 0, .int .i64 0, .slice none 0 0] (0, 0) _ rfl B3 Try.underlying24 rfl (by kernel_rfl)) rfl ⟨rfl, below3 (bel_into (unhide BL) S3) (by omega)⟩
end Go.Proofs.Ytflmlbdcjjldgaa.TRno
