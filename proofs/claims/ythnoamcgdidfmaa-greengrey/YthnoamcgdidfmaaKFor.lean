/- Contracts: green.Forth and green.Back. Conditions: pixels are few; where the image is good, it is in memory. -/
import Derived.Test.YthnoamcgdidfmaaKMak
import Derived.Test.YthnoamcgdidfmaaKNum
namespace Go.Proofs.Ythnoamcgdidfmaa.KFor
set_option linter.unusedVariables false
open Go.ChangeShapes Go.WideShapes Go.ChangeAt Go.RowKit Go.Sort Go.Proofs.Ythnoamcgdidfmaa.Core Go.Proofs.Ythnoamcgdidfmaa.PNum Go.Proofs.Ythnoamcgdidfmaa.PPrt Go.Proofs.Ythnoamcgdidfmaa.PGoo Go.Proofs.Ythnoamcgdidfmaa.XNum Go.Proofs.Ythnoamcgdidfmaa.Ims Go.Proofs.Ythnoamcgdidfmaa.KMak Go.Proofs.Ythnoamcgdidfmaa.KNum

/-- Both images, and the result's place, while the pixels are put. -/
structure FoI (w : World) (W H b off n c gl gp : Nat) (f : Nat → Nat) (j : Nat) (wr : World) : Prop where
  bm : Box wr w.heap.size 24 #[.int .i64 W, .int .i64 H, .slice (some ⟨b, off, none⟩) n c]
  br : Box wr (w.heap.size + 1) 24 #[.int .i64 0, .int .i64 0, .slice none 0 0]
  bn : Box wr gl 24 #[.int .i64 W, .int .i64 H, .slice (some ⟨gp, 0, none⟩) n n]
  row : Pow wr gp n (fun i => if i < j then f i else 0)
  bel : Below w.heap.size w wr
theorem FoI.keep {w wr w' : World} {W H b off n c gl gp : Nat} {f : Nat → Nat} {j : Nat} (h : FoI w W H b off n c gl gp f j wr) (u : Below wr.heap.size wr w') : FoI w W H b off n c gl gp f j w' :=
  ⟨h.bm.below u h.bm.lt, h.br.below u h.br.lt, h.bn.below u h.bn.lt, h.row.below u, bel_into h.bel u⟩
theorem FoI.next {w wr : World} {W H b off n c gl gp : Nat} {f : Nat → Nat} {j v : Nat} (h : FoI w W H b off n c gl gp f j wr) (e : v = f j) (n1 : w.heap.size + 1 < gp) (n2 : gl ≠ gp) :
    FoI w W H b off n c gl gp f (j + 1) (wr.setCell ⟨gp, j, none⟩ (.int .u32 v)) := by
  subst e
  refine ⟨h.bm.other (by show w.heap.size ≠ gp; omega) _, h.br.other (by show w.heap.size + 1 ≠ gp; omega) _, h.bn.other n2 _, (h.row.set j (f j)).congr fun i _ => ?_, h.bel.setCell (p := ⟨gp, j, none⟩) (by show w.heap.size ≤ gp; omega) _⟩
  by_cases e : i = j
  · subst e
    rw [if_pos rfl, if_pos (by omega)]
  · rw [if_neg e]
    by_cases e2 : i < j
    · rw [if_pos e2, if_pos (by omega)]
    · rw [if_neg e2, if_neg (by omega)]
theorem good (x y : Int) (a : Option Addr) (n c : Nat) (b : Bool) (w : World) (h : gdV x y n = b) :
    Calls Try.prog 12 #[.agg #[.int .i64 x, .int .i64 y, .slice a n c]] w fun e w' => e = .returned (.bool b) ∧ Below w.heap.size w w' := h ▸ good24 x y a n c w
theorem set_kept {w : World} {gl gp j : Nat} {s u : Value} (h2 : gl ≠ gp) (h : w.cell? ⟨gl, 2, none⟩ = some s) : (w.setCell ⟨gp, j, none⟩ u).cell? ⟨gl, 2, none⟩ = some s := by
  rw [cell_other h2]; exact h
theorem set_kept_d {w : World} {gl gp j : Nat} {s u : Value} (h2 : gl ≠ gp) (h : w.cell? ⟨gl, 2, none⟩ = some s) : (w.setCell ⟨gp, j, none⟩ u).drew.cell? ⟨gl, 2, none⟩ = some s := set_kept h2 h
set_option maxHeartbeats 400000 in
theorem forth7_no (W H : Int) (a : Option Addr) (n c : Nat) (w : World) (h : gdV W H n = false) :
    Calls Try.prog 7 #[.agg #[.int .i64 W, .int .i64 H, .slice a n c]] w fun e w' => e = .returned (.tuple #[.agg #[.int .i64 0, .int .i64 0, .slice none 0 0], .int .i64 1]) ∧ Below w.heap.size w w' := by
  have G := hide (fun w => good W H a n c false w h)
  have BL := hide (bel_a2 w (.cells #[.int .i64 W, .int .i64 H, .slice a n c] 24) (.cells #[.int .i64 0, .int .i64 0, .slice none 0 0] 24))
  have BR := hide (two_boxes w #[.int .i64 W, .int .i64 H, .slice a n c] #[.int .i64 0, .int .i64 0, .slice none 0 0] 24 24).2
  clear h
  go_enter Try.func7, Try.ntmps7
  go_wp2_with fail
  refine (unhide G _).mono ?_
  rintro e w2 ⟨rfl, b2⟩
  have B2 := hide (below_two (unhide BL) b2)
  have R2 := hide ((unhide BR).below b2 (unhide BR).lt)
  obtain ⟨⟨r0, r1, r2⟩, f0, f1, f2⟩ := box_cells (unhide R2)
  have hr := (unhide R2).lt
  clear b2 BL BR
  go_wp2
  exact bodyPost_ret (results_row_tmp rfl _ _ (w.heap.size + 1) 24 _ (0, 0) _ rfl ((((unhide R2).set 0 _).set 1 _).set 2 _) Try.underlying24 rfl (by kernel_rfl)) rfl ⟨rfl, (((unhide B2).setCell (p := ⟨w.heap.size + 1, 0, none⟩) (by simp) _).setCell (p := ⟨w.heap.size + 1, 1, none⟩) (by simp) _).setCell (p := ⟨w.heap.size + 1, 2, none⟩) (by simp) _⟩
set_option maxRecDepth 20000 in
set_option maxHeartbeats 1000000 in
theorem forth7 {W H b off n : Nat} (c : Nat) {z : Nat → Nat} {w : World} (I : Img w W H b off n z) (hW1 : 1 ≤ W) (hH1 : 1 ≤ H) (hl : n ≤ 1000000) :
    Calls Try.prog 7 #[.agg #[.int .i64 W, .int .i64 H, .slice (some ⟨b, off, none⟩) n c]] w fun e w' =>
      ∃ g, e = .returned (.tuple #[.agg #[.int .i64 W, .int .i64 H, .slice (some ⟨g, 0, none⟩) n n], .int .i64 0]) ∧ Gives w n g (fun i => lgV (z i)) w' := by
  have hW := I.hW
  have hH := I.hH
  have G := hide (fun w => good W H (some ⟨b, off, none⟩) n c true w (gd_mk hW1 hW hH1 hH I.hn))
  have BL := hide (bel_a2 w (.cells #[.int .i64 W, .int .i64 H, .slice (some ⟨b, off, none⟩) n c] 24) (.cells #[.int .i64 0, .int .i64 0, .slice none 0 0] 24))
  have BR := hide (two_boxes w #[.int .i64 W, .int .i64 H, .slice (some ⟨b, off, none⟩) n c] #[.int .i64 0, .int .i64 0, .slice none 0 0] 24 24)
  have I0 := hide I
  clear I
  go_enter Try.func7, Try.ntmps7
  go_wp2_with fail
  refine (unhide G _).mono ?_
  rintro e w2 ⟨rfl, b2⟩
  have B2 := hide (below_two (unhide BL) b2)
  have X2 := hide ((unhide BR).1.below b2 (unhide BR).1.lt)
  have R2 := hide ((unhide BR).2.below b2 (unhide BR).2.lt)
  obtain ⟨⟨m0, m1, m2⟩, _⟩ := box_cells (unhide X2)
  have hx2 := (unhide R2).lt
  clear b2 BL BR
  go_wp2_with fail
  refine (same18 W H (some ⟨b, off, none⟩) n c _ hl).mono ?_
  rintro e w3 ⟨rfl, E3⟩
  have F4 : Hid (FoI w W H b off n c w3.heap.size (w2.heap.size + 2) (fun i => lgV (z i)) 0 (w3.alloc (.cells #[.int .i64 W, .int .i64 H, .slice (some ⟨w2.heap.size + 2, 0, none⟩) n n] 24))) :=
    hide ⟨((unhide X2).below E3.bel (unhide X2).lt).alloc _, ((unhide R2).below E3.bel (unhide R2).lt).alloc _, Box.made _ _ _, (E3.row.congr (fun i _ => by rw [if_neg (by omega)])).below (bel_a1 _ _), bel_into (bel_into (unhide B2) E3.bel) (bel_a1 _ _)⟩
  have N2 := hide (show w3.heap.size ≠ w2.heap.size + 2 from by have := E3.lt; omega)
  have N1 := hide (show w.heap.size + 1 < w2.heap.size + 2 from by omega)
  clear E3 m0 m1 m2 hx2 R2 X2 B2
  generalize w2.heap.size + 2 = gp at *
  go_upto_region 4 with fail
  generalize w3.alloc (.cells #[.int .i64 W, .int .i64 H, .slice (some ⟨gp, 0, none⟩) n n] 24) = w4 at *
  generalize w3.heap.size = gl at *
  obtain ⟨⟨m0, m1, m2⟩, _⟩ := box_cells (unhide F4).bm
  have hgm := (unhide F4).bm.lt
  go_wp2_with fail
  go_loopw [20] (fun i wr => ∃ j : Nat, j ≤ n ∧ i = .int .i64 j ∧ FoI w W H b off n c gl gp (fun i => lgV (z i)) j wr) (fun i _ => n - (intOf i).toNat)
  case atStart => exact ⟨0, Nat.zero_le _, rfl, unhide F4⟩
  case round =>
    obtain ⟨j, hj, rfl, A⟩ := hrel
    clear m0 m1 m2 F4 hgm
    have AA := hide A
    by_cases hlt : j < n
    · have hlt' : (j : Int) < (n : Int) := by omega
      have hjp := ((unhide I0).below A.bel).px j hlt
      have hbl := lt_of_cell hjp
      obtain ⟨⟨d0, d1, d2⟩, _⟩ := box_cells A.bn
      have hgd := A.bn.lt
      obtain ⟨pj, fj⟩ := A.row j hlt
      have hgp := lt_of_cell pj
      have HJ : Hid (lgV (z j) = ((pt (z j) 0 * 256 + (pt (z j) 1 + 256 - pt (z j) 2) % 256) * 256 + pt (z j) 2) * 256 + (pt (z j) 3 + 256 - pt (z j) 2) % 256) := hide rfl
      have QM := hide (fun w => make11 (pt (z j) 0) ((pt (z j) 1 + 256 - pt (z j) 2) % 256) (pt (z j) 2) ((pt (z j) 3 + 256 - pt (z j) 2) % 256) (pt_lt _ _) (md_lt _) (pt_lt _ _) (md_lt _) w)
      have S1 := u8_sub (pt_lt (z j) 1) (pt_lt (z j) 2)
      have S3 := u8_sub (pt_lt (z j) 3) (pt_lt (z j) 2)
      have PP := hide (parts8 (z j))
      clear A
      have HZ : Hid ((fun i => lgV (z i)) j = lgV (z j)) := hide rfl
      generalize (pt (z j) 1 + 256 - pt (z j) 2) % 256 = q1 at *
      generalize (pt (z j) 3 + 256 - pt (z j) 2) % 256 = q3 at *
      generalize lgV (z j) = v at *
      generalize pt (z j) 0 = x0 at *
      generalize pt (z j) 1 = x1 at *
      generalize pt (z j) 2 = x2 at *
      generalize pt (z j) 3 = x3 at *
      generalize z j = zj at *
      go_wp2_with fail
      refine (unhide PP _).mono ?_
      rintro e w5 ⟨rfl, rfl⟩
      go_upto_region 8 with fail
      go_region_held3 (fun w' => w'.cell? ⟨gl, 2, none⟩ = some (.slice (some ⟨gp, 0, none⟩) n n)) (first | exact set_kept_d (unhide N2) d2 | go_keep) ((go_at_call 15; refine (unhide QM _).mono ?_; rintro e w6 ⟨rfl, rfl⟩))
      all_goals
        go_wp2_with fail
        go_roundw
        case rel => exact ⟨j + 1, by omega, by go_num, ((unhide AA).next ((unhide HJ).symm.trans (unhide HZ).symm) (unhide N1) (unhide N2)).keep (bel_dr (Below.refl _ _))⟩
        case measure => simp [intOf]; omega
    · obtain rfl : j = n := by omega
      obtain ⟨⟨d0, d1, d2⟩, _⟩ := box_cells A.bn
      have hgd := A.bn.lt
      obtain ⟨⟨r0, r1, r2⟩, f0, f1, f2⟩ := box_cells A.br
      have hgr := A.br.lt
      clear A
      have hnl : ¬ (j : Int) < (j : Int) := by omega
      go_wp2
      exact bodyPost_ret (results_row_tmp rfl _ _ (w.heap.size + 1) 24 _ (0, 0) _ rfl ((((unhide AA).br.set 0 _).set 1 _).set 2 _) Try.underlying24 rfl (by kernel_rfl)) rfl ⟨gp, rfl, ⟨((((unhide AA).row.other (p := ⟨w.heap.size + 1, 0, none⟩) (fun h => by have := unhide N1; have h' : gp = w.heap.size + 1 := h; omega) _).other (p := ⟨w.heap.size + 1, 1, none⟩) (fun h => by have := unhide N1; have h' : gp = w.heap.size + 1 := h; omega) _).other (p := ⟨w.heap.size + 1, 2, none⟩) (fun h => by have := unhide N1; have h' : gp = w.heap.size + 1 := h; omega) _).congr (fun i hi => if_pos hi), Nat.le_of_lt (Nat.lt_of_succ_lt (unhide N1)), (((unhide AA).bel.setCell (p := ⟨w.heap.size + 1, 0, none⟩) (by simp) _).setCell (p := ⟨w.heap.size + 1, 1, none⟩) (by simp) _).setCell (p := ⟨w.heap.size + 1, 2, none⟩) (by simp) _⟩⟩
set_option maxHeartbeats 400000 in
theorem back8_no (W H : Int) (a : Option Addr) (n c : Nat) (w : World) (h : gdV W H n = false) :
    Calls Try.prog 8 #[.agg #[.int .i64 W, .int .i64 H, .slice a n c]] w fun e w' => e = .returned (.tuple #[.agg #[.int .i64 0, .int .i64 0, .slice none 0 0], .int .i64 1]) ∧ Below w.heap.size w w' := by
  have G := hide (fun w => good W H a n c false w h)
  have BL := hide (bel_a2 w (.cells #[.int .i64 W, .int .i64 H, .slice a n c] 24) (.cells #[.int .i64 0, .int .i64 0, .slice none 0 0] 24))
  have BR := hide (two_boxes w #[.int .i64 W, .int .i64 H, .slice a n c] #[.int .i64 0, .int .i64 0, .slice none 0 0] 24 24).2
  clear h
  go_enter Try.func8, Try.ntmps8
  go_wp2_with fail
  refine (unhide G _).mono ?_
  rintro e w2 ⟨rfl, b2⟩
  have B2 := hide (below_two (unhide BL) b2)
  have R2 := hide ((unhide BR).below b2 (unhide BR).lt)
  obtain ⟨⟨r0, r1, r2⟩, f0, f1, f2⟩ := box_cells (unhide R2)
  have hr := (unhide R2).lt
  clear b2 BL BR
  go_wp2
  exact bodyPost_ret (results_row_tmp rfl _ _ (w.heap.size + 1) 24 _ (0, 0) _ rfl ((((unhide R2).set 0 _).set 1 _).set 2 _) Try.underlying24 rfl (by kernel_rfl)) rfl ⟨rfl, (((unhide B2).setCell (p := ⟨w.heap.size + 1, 0, none⟩) (by simp) _).setCell (p := ⟨w.heap.size + 1, 1, none⟩) (by simp) _).setCell (p := ⟨w.heap.size + 1, 2, none⟩) (by simp) _⟩
set_option maxRecDepth 20000 in
set_option maxHeartbeats 1000000 in
theorem back8 {W H b off n : Nat} (c : Nat) {z : Nat → Nat} {w : World} (I : Img w W H b off n z) (hW1 : 1 ≤ W) (hH1 : 1 ≤ H) (hl : n ≤ 1000000) :
    Calls Try.prog 8 #[.agg #[.int .i64 W, .int .i64 H, .slice (some ⟨b, off, none⟩) n c]] w fun e w' =>
      ∃ g, e = .returned (.tuple #[.agg #[.int .i64 W, .int .i64 H, .slice (some ⟨g, 0, none⟩) n n], .int .i64 0]) ∧ Gives w n g (fun i => mgV (z i)) w' := by
  have hW := I.hW
  have hH := I.hH
  have G := hide (fun w => good W H (some ⟨b, off, none⟩) n c true w (gd_mk hW1 hW hH1 hH I.hn))
  have BL := hide (bel_a2 w (.cells #[.int .i64 W, .int .i64 H, .slice (some ⟨b, off, none⟩) n c] 24) (.cells #[.int .i64 0, .int .i64 0, .slice none 0 0] 24))
  have BR := hide (two_boxes w #[.int .i64 W, .int .i64 H, .slice (some ⟨b, off, none⟩) n c] #[.int .i64 0, .int .i64 0, .slice none 0 0] 24 24)
  have I0 := hide I
  clear I
  go_enter Try.func8, Try.ntmps8
  go_wp2_with fail
  refine (unhide G _).mono ?_
  rintro e w2 ⟨rfl, b2⟩
  have B2 := hide (below_two (unhide BL) b2)
  have X2 := hide ((unhide BR).1.below b2 (unhide BR).1.lt)
  have R2 := hide ((unhide BR).2.below b2 (unhide BR).2.lt)
  obtain ⟨⟨m0, m1, m2⟩, _⟩ := box_cells (unhide X2)
  have hx2 := (unhide R2).lt
  clear b2 BL BR
  go_wp2_with fail
  refine (same18 W H (some ⟨b, off, none⟩) n c _ hl).mono ?_
  rintro e w3 ⟨rfl, E3⟩
  have F4 : Hid (FoI w W H b off n c w3.heap.size (w2.heap.size + 2) (fun i => mgV (z i)) 0 (w3.alloc (.cells #[.int .i64 W, .int .i64 H, .slice (some ⟨w2.heap.size + 2, 0, none⟩) n n] 24))) :=
    hide ⟨((unhide X2).below E3.bel (unhide X2).lt).alloc _, ((unhide R2).below E3.bel (unhide R2).lt).alloc _, Box.made _ _ _, (E3.row.congr (fun i _ => by rw [if_neg (by omega)])).below (bel_a1 _ _), bel_into (bel_into (unhide B2) E3.bel) (bel_a1 _ _)⟩
  have N2 := hide (show w3.heap.size ≠ w2.heap.size + 2 from by have := E3.lt; omega)
  have N1 := hide (show w.heap.size + 1 < w2.heap.size + 2 from by omega)
  clear E3 m0 m1 m2 hx2 R2 X2 B2
  generalize w2.heap.size + 2 = gp at *
  go_upto_region 4 with fail
  generalize w3.alloc (.cells #[.int .i64 W, .int .i64 H, .slice (some ⟨gp, 0, none⟩) n n] 24) = w4 at *
  generalize w3.heap.size = gl at *
  obtain ⟨⟨m0, m1, m2⟩, _⟩ := box_cells (unhide F4).bm
  have hgm := (unhide F4).bm.lt
  go_wp2_with fail
  go_loopw [20] (fun i wr => ∃ j : Nat, j ≤ n ∧ i = .int .i64 j ∧ FoI w W H b off n c gl gp (fun i => mgV (z i)) j wr) (fun i _ => n - (intOf i).toNat)
  case atStart => exact ⟨0, Nat.zero_le _, rfl, unhide F4⟩
  case round =>
    obtain ⟨j, hj, rfl, A⟩ := hrel
    clear m0 m1 m2 F4 hgm
    have AA := hide A
    by_cases hlt : j < n
    · have hlt' : (j : Int) < (n : Int) := by omega
      have hjp := ((unhide I0).below A.bel).px j hlt
      have hbl := lt_of_cell hjp
      obtain ⟨⟨d0, d1, d2⟩, _⟩ := box_cells A.bn
      have hgd := A.bn.lt
      obtain ⟨pj, fj⟩ := A.row j hlt
      have hgp := lt_of_cell pj
      have HJ : Hid (mgV (z j) = ((pt (z j) 0 * 256 + (pt (z j) 1 + pt (z j) 2) % 256) * 256 + pt (z j) 2) * 256 + (pt (z j) 3 + pt (z j) 2) % 256) := hide rfl
      have QM := hide (fun w => make11 (pt (z j) 0) ((pt (z j) 1 + pt (z j) 2) % 256) (pt (z j) 2) ((pt (z j) 3 + pt (z j) 2) % 256) (pt_lt _ _) (md_lt _) (pt_lt _ _) (md_lt _) w)
      have S1 := u8_add (pt_lt (z j) 1) (pt_lt (z j) 2)
      have S3 := u8_add (pt_lt (z j) 3) (pt_lt (z j) 2)
      have PP := hide (parts8 (z j))
      clear A
      have HZ : Hid ((fun i => mgV (z i)) j = mgV (z j)) := hide rfl
      generalize (pt (z j) 1 + pt (z j) 2) % 256 = q1 at *
      generalize (pt (z j) 3 + pt (z j) 2) % 256 = q3 at *
      generalize mgV (z j) = v at *
      generalize pt (z j) 0 = x0 at *
      generalize pt (z j) 1 = x1 at *
      generalize pt (z j) 2 = x2 at *
      generalize pt (z j) 3 = x3 at *
      generalize z j = zj at *
      go_wp2_with fail
      refine (unhide PP _).mono ?_
      rintro e w5 ⟨rfl, rfl⟩
      go_upto_region 8 with fail
      go_region_held3 (fun w' => w'.cell? ⟨gl, 2, none⟩ = some (.slice (some ⟨gp, 0, none⟩) n n)) (first | exact set_kept_d (unhide N2) d2 | go_keep) ((go_at_call 15; refine (unhide QM _).mono ?_; rintro e w6 ⟨rfl, rfl⟩))
      all_goals
        go_wp2_with fail
        go_roundw
        case rel => exact ⟨j + 1, by omega, by go_num, ((unhide AA).next ((unhide HJ).symm.trans (unhide HZ).symm) (unhide N1) (unhide N2)).keep (bel_dr (Below.refl _ _))⟩
        case measure => simp [intOf]; omega
    · obtain rfl : j = n := by omega
      obtain ⟨⟨d0, d1, d2⟩, _⟩ := box_cells A.bn
      have hgd := A.bn.lt
      obtain ⟨⟨r0, r1, r2⟩, f0, f1, f2⟩ := box_cells A.br
      have hgr := A.br.lt
      clear A
      have hnl : ¬ (j : Int) < (j : Int) := by omega
      go_wp2
      exact bodyPost_ret (results_row_tmp rfl _ _ (w.heap.size + 1) 24 _ (0, 0) _ rfl ((((unhide AA).br.set 0 _).set 1 _).set 2 _) Try.underlying24 rfl (by kernel_rfl)) rfl ⟨gp, rfl, ⟨((((unhide AA).row.other (p := ⟨w.heap.size + 1, 0, none⟩) (fun h => by have := unhide N1; have h' : gp = w.heap.size + 1 := h; omega) _).other (p := ⟨w.heap.size + 1, 1, none⟩) (fun h => by have := unhide N1; have h' : gp = w.heap.size + 1 := h; omega) _).other (p := ⟨w.heap.size + 1, 2, none⟩) (fun h => by have := unhide N1; have h' : gp = w.heap.size + 1 := h; omega) _).congr (fun i hi => if_pos hi), Nat.le_of_lt (Nat.lt_of_succ_lt (unhide N1)), (((unhide AA).bel.setCell (p := ⟨w.heap.size + 1, 0, none⟩) (by simp) _).setCell (p := ⟨w.heap.size + 1, 1, none⟩) (by simp) _).setCell (p := ⟨w.heap.size + 1, 2, none⟩) (by simp) _⟩⟩
end Go.Proofs.Ythnoamcgdidfmaa.KFor
