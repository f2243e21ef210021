/- Contracts: the document's Green. Conditions: the image is in memory, and its pixels are few. -/
import Derived.Test.YthnoamcgdidfmaaKNum
import Derived.Test.YthnoamcgdidfmaaIApp
namespace Go.Proofs.Ythnoamcgdidfmaa.KRef
set_option linter.unusedVariables false
open Go.ChangeShapes Go.WideShapes Go.ChangeAt Go.RowKit Go.Sort Go.Proofs.Ythnoamcgdidfmaa.Core Go.Proofs.Ythnoamcgdidfmaa.PNum Go.Proofs.Ythnoamcgdidfmaa.PPrt Go.Proofs.Ythnoamcgdidfmaa.PRmk Go.Proofs.Ythnoamcgdidfmaa.PGoo Go.Proofs.Ythnoamcgdidfmaa.XNum Go.Proofs.Ythnoamcgdidfmaa.Ims Go.Proofs.Ythnoamcgdidfmaa.IApp Go.Proofs.Ythnoamcgdidfmaa.KNum

theorem own_keep {w w' : World} {base n k : Nat} {t : TypeId} {v : Value} {xs : List Value} (h : w.ownsRow base t k v n xs) (b : Below w.heap.size w w') : w'.ownsRow base t k v n xs :=
  h.kept (row := none) ⟨b.os, b.tape, b.output, b.size, fun k hk _ => b.block k hk⟩ (by cases v.ownBlock <;> simp)
theorem Pga.keep {w wr w' : World} {W H : Nat} {z : Nat → Nat} {j : Nat} {v : Value} (h : Pga w W H z j v wr) (u : Below wr.heap.size wr w') : Pga w W H z j v w' :=
  ⟨h.box.below u h.box.lt, own_keep h.own u, bel_into h.bel u⟩
theorem rmake_lg (p : Nat) (w : World) : Calls Try.prog 18 #[.agg #[.int .i64 (pt p 0), .int .i64 ((pt p 1 : Int) + -(pt p 2 : Int)), .int .i64 (pt p 2), .int .i64 ((pt p 3 : Int) + -(pt p 2 : Int))]] w fun e w' => e = .returned (.int .u32 (lgV p)) ∧ Below w.heap.size w w' := by
  have l := pt_lt p 2
  have h := make29 (dgF p (-(pt p 2 : Int))) w (fun k _ => dg_bd p (by omega) (by omega) k)
  rw [dg_lg] at h
  exact h
theorem rmake_mg (p : Nat) (w : World) : Calls Try.prog 18 #[.agg #[.int .i64 (pt p 0), .int .i64 ((pt p 1 : Int) + (pt p 2 : Int)), .int .i64 (pt p 2), .int .i64 ((pt p 3 : Int) + (pt p 2 : Int))]] w fun e w' => e = .returned (.int .u32 (mgV p)) ∧ Below w.heap.size w w' := by
  have l := pt_lt p 2
  have h := make29 (dgF p (pt p 2 : Int)) w (fun k _ => dg_bd p (by omega) (by omega) k)
  rw [dg_mg] at h
  exact h
set_option maxRecDepth 20000 in
set_option maxHeartbeats 2000000 in
theorem rgreen_forth {W H b off n : Nat} (c : Nat) {z : Nat → Nat} {w : World} (P : Pixs w b off n z) (h0 : 0 < n) (hl : n ≤ 100000) :
    Calls Try.prog 11 #[.agg #[.int .i64 W, .int .i64 H, .slice (some ⟨b, off, none⟩) n c], .bool false] w fun e w' =>
      ∃ g cap, e = .returned (.agg #[.int .i64 W, .int .i64 H, .slice (some ⟨g, 0, none⟩) n cap]) ∧ Gives w n g (fun i => lgV (z i)) w' := by
  have BL := hide (bel_a2 w (.cells #[.int .i64 W, .int .i64 H, .slice (some ⟨b, off, none⟩) n c] 24) (.cells #[.int .i64 0, .int .i64 0, .slice none 0 0] 24))
  have BR := hide (two_boxes w #[.int .i64 W, .int .i64 H, .slice (some ⟨b, off, none⟩) n c] #[.int .i64 0, .int .i64 0, .slice none 0 0] 24 24)
  have P0 := hide P
  clear P
  go_enter Try.func11, Try.ntmps11
  go_upto_region 1 with fail
  have SZ := hide (show ((w.alloc (.cells #[.int .i64 W, .int .i64 H, .slice (some ⟨b, off, none⟩) n c] 24)).alloc (.cells #[.int .i64 0, .int .i64 0, .slice none 0 0] 24)).heap.size = w.heap.size + 2 by simp)
  generalize (w.alloc (.cells #[.int .i64 W, .int .i64 H, .slice (some ⟨b, off, none⟩) n c] 24)).alloc (.cells #[.int .i64 0, .int .i64 0, .slice none 0 0] 24) = w2 at *
  obtain ⟨⟨m0, m1, m2⟩, _⟩ := box_cells (unhide BR).1
  have hgm := (unhide BR).1.lt
  go_wp2_with fail
  go_loopw [6] (fun i wr => ∃ (j : Nat) (v : Value), j ≤ n ∧ i = .int .i64 j ∧ Pga w2 W H (fun i => lgV (z i)) j v wr) (fun i _ => n - (intOf i).toNat)
  case atStart => exact ⟨0, _, Nat.zero_le _, rfl, Pga.start w2 W H _⟩
  case round =>
    obtain ⟨j, v, hj, rfl, A⟩ := hrel
    clear m0 m1 m2 hgm
    have PG := hide A
    have X2 := hide ((unhide BR).1.below A.bel (unhide BR).1.lt)
    obtain ⟨⟨m0, m1, m2⟩, _⟩ := box_cells (unhide X2)
    have hgm := (unhide X2).lt
    obtain ⟨⟨d0, d1, d2⟩, f0, f1, f2⟩ := box_cells A.box
    have hgd := A.box.lt
    by_cases hlt : j < n
    · have hlt' : (j : Int) < (n : Int) := by omega
      obtain ⟨va, vc, rfl⟩ := own_slice A.own
      have px := (unhide P0).below (bel_into (unhide BL) A.bel) j hlt
      have hpx := lt_of_cell px
      have l0 := pt_lt (z j) 0
      have l1 := pt_lt (z j) 1
      have l2 := pt_lt (z j) 2
      have l3 := pt_lt (z j) 3
      have Q0 := hide (fun w => part10 (z j) 0 (by omega) w)
      have Q1 := hide (fun w => part10 (z j) 1 (by omega) w)
      have Q2 := hide (fun w => part10 (z j) 2 (by omega) w)
      have Q3 := hide (fun w => part10 (z j) 3 (by omega) w)
      have QM := hide (fun w => rmake_lg (z j) w)
      obtain ⟨u, hu⟩ : ∃ u, lgV (z j) = u := ⟨_, rfl⟩
      have HU : Hid ((fun i => lgV (z i)) j = u) := hide hu
      rw [hu] at QM
      clear A hu
      generalize pt (z j) 0 = x0 at *
      generalize pt (z j) 1 = x1 at *
      generalize pt (z j) 2 = x2 at *
      generalize pt (z j) 3 = x3 at *
      generalize z j = y at *
      have SUM1 : IntKind.i64.wrap ((x1 : Int) + -(x2 : Int)) = (x1 : Int) + -(x2 : Int) := by simp [IntKind.wrap, IntKind.bits, IntKind.signed]; omega
      have SUM3 : IntKind.i64.wrap ((x3 : Int) + -(x2 : Int)) = (x3 : Int) + -(x2 : Int) := by simp [IntKind.wrap, IntKind.bits, IntKind.signed]; omega
      go_wp2_with fail
      refine (unhide Q2 _).mono ?_
      rintro e w5 ⟨rfl, rfl⟩
      go_upto_region 9 with fail
      go_region_law (first | (refine step_app rfl (.tmp 33) (.tmp 48) rfl (w2.heap.size + 1) (.slice va j vc) j (pcells (fun i => lgV (z i)) j) (by simp [Act.eval]) ((unhide P6).own.alloc _) ⟨w6.heap.size, 0, none⟩ 1 1 [.int .u32 u] (by simp [Act.eval]) rfl (cell_one_new _ _ _) (one_one _ _) (by omega) (by have := (unhide P6).box.lt; simp; omega) ?_; intro v' w' own1 gr1; have BX1 := (unhide P6).box1 gr1; have PA := hide ((unhide P6).app own1 gr1 (congrArg Int.ofNat (unhide HU).symm)); obtain ⟨⟨d01, d11, d21⟩, f01, f11, f21⟩ := box_cells BX1; have hd21 := BX1.lt; obtain ⟨ua, uc, rfl⟩ := own_slice own1; clear own1 gr1 BX1) | (go_simp; go_at_call 17; (first | with_reducible refine Calls.mono (unhide Q0 _) ?_ | with_reducible refine Calls.mono (unhide Q1 _) ?_ | with_reducible refine Calls.mono (unhide Q2 _) ?_ | with_reducible refine Calls.mono (unhide Q3 _) ?_); rintro e w8 ⟨rfl, rfl⟩) | (go_simp; go_at_call 18; with_reducible refine Calls.mono (unhide QM _) ?_; rintro e w6 ⟨rfl, b6⟩; have P6 := hide (Pga.keep (Pga.drew (unhide PG)) b6); obtain ⟨⟨d06, d16, d26⟩, f06, f16, f26⟩ := box_cells (unhide P6).box; have hgd6 := (unhide P6).box.lt; clear b6))
      all_goals
        go_wp2_with fail
        go_roundw
        case rel => exact ⟨j + 1, _, by omega, by go_num, unhide PA⟩
        case measure => simp [intOf]; omega
    · obtain rfl : j = n := by omega
      have hnl : ¬ (j : Int) < (j : Int) := by omega
      obtain ⟨g, cz, rfl, pw, hg1, hg2⟩ := own_pow A.own h0
      have R2 := hide ((unhide BR).2.below A.bel (unhide BR).2.lt)
      obtain ⟨⟨r0, r1, r2⟩, k0, k1, k2⟩ := box_cells (unhide R2)
      have hgr := (unhide R2).lt
      have PW := hide pw
      have BB := hide (bel_into (unhide BL) A.bel)
      have NG := hide (show g ≠ w.heap.size + 1 from by have := unhide SZ; omega)
      have NW := hide (show w.heap.size ≤ g from by have := unhide SZ; omega)
      clear A pw hg1 hg2 PG
      go_wp2
      exact bodyPost_ret (results_cell_row rfl _ _ (w.heap.size + 1) 24 _ (0, 0) _ rfl ((((unhide R2).set 0 _).set 1 _).set 2 _) Try.underlying24 rfl (by kernel_rfl)) rfl ⟨g, ⟨cz, rfl⟩, ⟨(((unhide PW).other (p := ⟨w.heap.size + 1, 0, none⟩) (unhide NG) _).other (p := ⟨w.heap.size + 1, 1, none⟩) (unhide NG) _).other (p := ⟨w.heap.size + 1, 2, none⟩) (unhide NG) _, unhide NW, (((unhide BB).setCell (p := ⟨w.heap.size + 1, 0, none⟩) (by simp) _).setCell (p := ⟨w.heap.size + 1, 1, none⟩) (by simp) _).setCell (p := ⟨w.heap.size + 1, 2, none⟩) (by simp) _⟩⟩
set_option maxRecDepth 20000 in
set_option maxHeartbeats 2000000 in
theorem rgreen_back {W H b off n : Nat} (c : Nat) {z : Nat → Nat} {w : World} (P : Pixs w b off n z) (h0 : 0 < n) (hl : n ≤ 100000) :
    Calls Try.prog 11 #[.agg #[.int .i64 W, .int .i64 H, .slice (some ⟨b, off, none⟩) n c], .bool true] w fun e w' =>
      ∃ g cap, e = .returned (.agg #[.int .i64 W, .int .i64 H, .slice (some ⟨g, 0, none⟩) n cap]) ∧ Gives w n g (fun i => mgV (z i)) w' := by
  have BL := hide (bel_a2 w (.cells #[.int .i64 W, .int .i64 H, .slice (some ⟨b, off, none⟩) n c] 24) (.cells #[.int .i64 0, .int .i64 0, .slice none 0 0] 24))
  have BR := hide (two_boxes w #[.int .i64 W, .int .i64 H, .slice (some ⟨b, off, none⟩) n c] #[.int .i64 0, .int .i64 0, .slice none 0 0] 24 24)
  have P0 := hide P
  clear P
  go_enter Try.func11, Try.ntmps11
  go_upto_region 1 with fail
  have SZ := hide (show ((w.alloc (.cells #[.int .i64 W, .int .i64 H, .slice (some ⟨b, off, none⟩) n c] 24)).alloc (.cells #[.int .i64 0, .int .i64 0, .slice none 0 0] 24)).heap.size = w.heap.size + 2 by simp)
  generalize (w.alloc (.cells #[.int .i64 W, .int .i64 H, .slice (some ⟨b, off, none⟩) n c] 24)).alloc (.cells #[.int .i64 0, .int .i64 0, .slice none 0 0] 24) = w2 at *
  obtain ⟨⟨m0, m1, m2⟩, _⟩ := box_cells (unhide BR).1
  have hgm := (unhide BR).1.lt
  go_wp2_with fail
  go_loopw [6] (fun i wr => ∃ (j : Nat) (v : Value), j ≤ n ∧ i = .int .i64 j ∧ Pga w2 W H (fun i => mgV (z i)) j v wr) (fun i _ => n - (intOf i).toNat)
  case atStart => exact ⟨0, _, Nat.zero_le _, rfl, Pga.start w2 W H _⟩
  case round =>
    obtain ⟨j, v, hj, rfl, A⟩ := hrel
    clear m0 m1 m2 hgm
    have PG := hide A
    have X2 := hide ((unhide BR).1.below A.bel (unhide BR).1.lt)
    obtain ⟨⟨m0, m1, m2⟩, _⟩ := box_cells (unhide X2)
    have hgm := (unhide X2).lt
    obtain ⟨⟨d0, d1, d2⟩, f0, f1, f2⟩ := box_cells A.box
    have hgd := A.box.lt
    by_cases hlt : j < n
    · have hlt' : (j : Int) < (n : Int) := by omega
      obtain ⟨va, vc, rfl⟩ := own_slice A.own
      have px := (unhide P0).below (bel_into (unhide BL) A.bel) j hlt
      have hpx := lt_of_cell px
      have l0 := pt_lt (z j) 0
      have l1 := pt_lt (z j) 1
      have l2 := pt_lt (z j) 2
      have l3 := pt_lt (z j) 3
      have Q0 := hide (fun w => part10 (z j) 0 (by omega) w)
      have Q1 := hide (fun w => part10 (z j) 1 (by omega) w)
      have Q2 := hide (fun w => part10 (z j) 2 (by omega) w)
      have Q3 := hide (fun w => part10 (z j) 3 (by omega) w)
      have QM := hide (fun w => rmake_mg (z j) w)
      obtain ⟨u, hu⟩ : ∃ u, mgV (z j) = u := ⟨_, rfl⟩
      have HU : Hid ((fun i => mgV (z i)) j = u) := hide hu
      rw [hu] at QM
      clear A hu
      generalize pt (z j) 0 = x0 at *
      generalize pt (z j) 1 = x1 at *
      generalize pt (z j) 2 = x2 at *
      generalize pt (z j) 3 = x3 at *
      generalize z j = y at *
      have SUM1 : IntKind.i64.wrap ((x1 : Int) + (x2 : Int)) = (x1 : Int) + (x2 : Int) := by simp [IntKind.wrap, IntKind.bits, IntKind.signed]; omega
      have SUM3 : IntKind.i64.wrap ((x3 : Int) + (x2 : Int)) = (x3 : Int) + (x2 : Int) := by simp [IntKind.wrap, IntKind.bits, IntKind.signed]; omega
      go_wp2_with fail
      refine (unhide Q2 _).mono ?_
      rintro e w5 ⟨rfl, rfl⟩
      go_upto_region 9 with fail
      go_region_law (first | (refine step_app rfl (.tmp 33) (.tmp 48) rfl (w2.heap.size + 1) (.slice va j vc) j (pcells (fun i => mgV (z i)) j) (by simp [Act.eval]) ((unhide P6).own.alloc _) ⟨w6.heap.size, 0, none⟩ 1 1 [.int .u32 u] (by simp [Act.eval]) rfl (cell_one_new _ _ _) (one_one _ _) (by omega) (by have := (unhide P6).box.lt; simp; omega) ?_; intro v' w' own1 gr1; have BX1 := (unhide P6).box1 gr1; have PA := hide ((unhide P6).app own1 gr1 (congrArg Int.ofNat (unhide HU).symm)); obtain ⟨⟨d01, d11, d21⟩, f01, f11, f21⟩ := box_cells BX1; have hd21 := BX1.lt; obtain ⟨ua, uc, rfl⟩ := own_slice own1; clear own1 gr1 BX1) | (go_simp; go_at_call 17; (first | with_reducible refine Calls.mono (unhide Q0 _) ?_ | with_reducible refine Calls.mono (unhide Q1 _) ?_ | with_reducible refine Calls.mono (unhide Q2 _) ?_ | with_reducible refine Calls.mono (unhide Q3 _) ?_); rintro e w8 ⟨rfl, rfl⟩) | (go_simp; go_at_call 18; with_reducible refine Calls.mono (unhide QM _) ?_; rintro e w6 ⟨rfl, b6⟩; have P6 := hide (Pga.keep (Pga.drew (unhide PG)) b6); obtain ⟨⟨d06, d16, d26⟩, f06, f16, f26⟩ := box_cells (unhide P6).box; have hgd6 := (unhide P6).box.lt; clear b6))
      all_goals
        go_wp2_with fail
        go_roundw
        case rel => exact ⟨j + 1, _, by omega, by go_num, unhide PA⟩
        case measure => simp [intOf]; omega
    · obtain rfl : j = n := by omega
      have hnl : ¬ (j : Int) < (j : Int) := by omega
      obtain ⟨g, cz, rfl, pw, hg1, hg2⟩ := own_pow A.own h0
      have R2 := hide ((unhide BR).2.below A.bel (unhide BR).2.lt)
      obtain ⟨⟨r0, r1, r2⟩, k0, k1, k2⟩ := box_cells (unhide R2)
      have hgr := (unhide R2).lt
      have PW := hide pw
      have BB := hide (bel_into (unhide BL) A.bel)
      have NG := hide (show g ≠ w.heap.size + 1 from by have := unhide SZ; omega)
      have NW := hide (show w.heap.size ≤ g from by have := unhide SZ; omega)
      clear A pw hg1 hg2 PG
      go_wp2
      exact bodyPost_ret (results_cell_row rfl _ _ (w.heap.size + 1) 24 _ (0, 0) _ rfl ((((unhide R2).set 0 _).set 1 _).set 2 _) Try.underlying24 rfl (by kernel_rfl)) rfl ⟨g, ⟨cz, rfl⟩, ⟨(((unhide PW).other (p := ⟨w.heap.size + 1, 0, none⟩) (unhide NG) _).other (p := ⟨w.heap.size + 1, 1, none⟩) (unhide NG) _).other (p := ⟨w.heap.size + 1, 2, none⟩) (unhide NG) _, unhide NW, (((unhide BB).setCell (p := ⟨w.heap.size + 1, 0, none⟩) (by simp) _).setCell (p := ⟨w.heap.size + 1, 1, none⟩) (by simp) _).setCell (p := ⟨w.heap.size + 1, 2, none⟩) (by simp) _⟩⟩
end Go.Proofs.Ythnoamcgdidfmaa.KRef
