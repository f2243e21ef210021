/- Contract: the document's Colors. Conditions: the pixels are at most 60000. -/
import Derived.Test.YtflmlbdcjjldgaaTRst
namespace Go.Proofs.Ytflmlbdcjjldgaa.TRco
set_option linter.unusedVariables false
open Go.ChangeShapes Go.WideShapes Go.ChangeAt Go.RowKit Go.Sort Go.Proofs.Ytflmlbdcjjldgaa.Core Go.Proofs.Ytflmlbdcjjldgaa.PNum Go.Proofs.Ytflmlbdcjjldgaa.PGoo Go.Proofs.Ytflmlbdcjjldgaa.Ims Go.Proofs.Ytflmlbdcjjldgaa.IApp Go.Proofs.Ytflmlbdcjjldgaa.TSet Go.Proofs.Ytflmlbdcjjldgaa.TCol Go.Proofs.Ytflmlbdcjjldgaa.TLst Go.Proofs.Ytflmlbdcjjldgaa.TRcn Go.Proofs.Ytflmlbdcjjldgaa.TRst

/-- What the document's Colors answers of what may be. -/
def RColV (w : World) (n : Nat) (z : Nat → Nat) (e : Ending) (w' : World) : Prop :=
  if (ds z n).length ≤ 256 then ∃ a c, e = .returned (.tuple #[.slice a (ds z n).length c, .bool true]) ∧ Lst w' (.slice a (ds z n).length c) (ds z n).length (fun j => (ds z n).getD j 0) ∧ Below w.heap.size w w'
  else e = .returned (.tuple #[.slice none 0 0, .bool false]) ∧ Below w.heap.size w w'
theorem rcolors10_no {W H : Int} (a : Option Addr) (n c : Nat) (w : World) (hg : gdV W H n = false) :
    Calls Try.prog 10 #[.agg #[.int .i64 W, .int .i64 H, .slice a n c]] w fun e w' => e = .returned (.tuple #[.slice none 0 0, .bool false]) ∧ Below w.heap.size w w' := by
  have G := hide (fun w1 => rgood25 W H a n c w1)
  rw [hg] at G
  have BL := hide (bel_a1 w (.cells #[.int .i64 W, .int .i64 H, .slice a n c] 24))
  go_enter Try.func10, Try.ntmps10
  go_wp2_with fail
  refine (unhide G _).mono ?_
  rintro e w' ⟨rfl, b1⟩
  have B1 := hide (below_two (unhide BL) b1)
  clear b1
  go_wp2
  go_ret2
  exact ⟨rfl, unhide B1⟩
set_option maxRecDepth 20000 in
set_option maxHeartbeats 4000000 in
theorem rcolors10 {W H b off n : Nat} {z : Nat → Nat} (c : Nat) {w : World} (I : Img w W H b off n z) (hz : ∀ i, i < n → z i < 4294967296) (h1 : 1 ≤ W) (h2 : 1 ≤ H) (hn : n ≤ 60000) :
    Calls Try.prog 10 #[.agg #[.int .i64 W, .int .i64 H, .slice (some ⟨b, off, none⟩) n c]] w fun e w' => RColV w n z e w' := by
  have n0 : 0 < n := by rw [I.hn]; exact Nat.mul_pos h1 h2
  have G := hide (fun w1 => rgood25 (W : Int) (H : Int) (some ⟨b, off, none⟩) n c w1)
  rw [gd_mk h1 I.hW h2 I.hH I.hn] at G
  have BX := hide (Box.made w 24 #[.int .i64 W, .int .i64 H, .slice (some ⟨b, off, none⟩) n c])
  have BL := hide (bel_a1 w (.cells #[.int .i64 W, .int .i64 H, .slice (some ⟨b, off, none⟩) n c] 24))
  have PX := hide I.px
  clear I hz h1 h2
  go_enter Try.func10, Try.ntmps10
  go_wp2_with fail
  refine (unhide G _).mono ?_
  rintro e w1 ⟨rfl, b1⟩
  have B1 := hide (bel_into (unhide BL) b1)
  have X1 := hide ((unhide BX).below b1 (unhide BX).lt)
  have hgm := (unhide X1).lt
  clear b1 G BX BL
  go_wp2
  go_loopw [4, 5] (fun v vi wr => ∃ i : Nat, vi = .int .i64 i ∧ i ≤ n ∧ (ds z i).length ≤ 256 ∧ So wr (ds z i) v ∧ Below w1.heap.size w1 wr) (fun _ vi _ => n - (intOf vi).toNat)
  case atStart => exact ⟨0, rfl, Nat.zero_le _, by simp [ds], .inl ⟨rfl, rfl⟩, Below.refl _ _⟩
  case round =>
    obtain ⟨i, rfl, hi, hds, S, B⟩ := hrel
    have BB := hide (bel_into (unhide B1) B)
    have B2 := hide B
    have SS := hide S
    have X2 := hide ((unhide X1).below B (unhide X1).lt)
    obtain ⟨⟨m0, m1, m2⟩, _⟩ := box_cells (unhide X2)
    by_cases hlt : i < n
    · have hlt' : (i : Int) < (n : Int) := by omega
      have p0 : wr.cell? ⟨b, off + i, none⟩ = some (.int .u32 (z i)) := (unhide PX).below (unhide BB) i hlt
      have hbl := lt_of_cell p0
      have hgr := (unhide X2).lt
      clear B m0 m1
      obtain ⟨x, hx⟩ : ∃ x, x = z i := ⟨_, rfl⟩
      have HX := hide hx
      rw [← hx] at p0
      clear hx
      obtain ⟨l, hl⟩ : ∃ l, l = ds z i := ⟨_, rfl⟩
      have HL := hide hl
      rw [← hl] at hds S SS
      clear hl
      clear SS
      rcases S with ⟨rfl, rfl⟩ | ⟨ob, oo, oc, rfl, hl0, hoc, P⟩
      · have hgz := lt_of_cell p0
        obtain ⟨hs1, hs2⟩ : w.heap.size < wr.heap.size ∧ b < wr.heap.size := ⟨hgr, hbl⟩
        generalize wr = wl at *
        go_wp2_with fail
        go_loopw [6] (fun vk ws => vk = .int .i64 0 ∧ Below wl.heap.size wl ws) (fun _ _ => 0)
        case atStart => exact ⟨rfl, Below.refl _ _⟩
        case round =>
          obtain ⟨rfl, B⟩ := hrel
          have B3 := hide B
          clear B
          go_wp2_with fail
          go_quiet (fail)
          have B4 := hide (bel_into (unhide B3) (drewN_below wr nq))
          clear B3
          generalize wr.drewN nq = wy at *
          clear nq
          go_wp2_with fail
          go_quiet (fail)
          have B5 := hide (bel_into (unhide B4) (drewN_below wy nq))
          clear B4
          generalize wy.drewN nq = wz at *
          clear nq
          have m3 := ((unhide B5).cell (p := ⟨w.heap.size, 2, none⟩) hgr).trans m2
          have p3 := ((unhide B5).cell (p := ⟨b, off + i, none⟩) hbl).trans p0
          have hgr3 := lt_of_cell m3
          have hbl3 := lt_of_cell p3
          clear m2 p0 hgr hbl hgz hs1 hs2
          have O1 := own_empty wz
          have O2 := own_empty1 wz (.cells #[.int .u32 (x : Int)] 31)
          have HO1 := hide O1
          have HO2 := hide O2
          clear O1 O2
          go_upto_region 13 with fail
          go_region_held3 (fun w' => w'.cell? ⟨w.heap.size, 2, none⟩ = some (.slice (some ⟨b, off, none⟩) n c) ∧ w'.cell? ⟨b, off + i, none⟩ = some (.int .u32 x)) (first | exact ⟨k1, k2⟩ | go_keep) ((first | (refine step_one rfl (.tmp 58) (.tmp 64) rfl wz.heap.size (.slice (some ⟨wz.heap.size, 0, none⟩) 0 0) 0 [] (by simp [Act.eval]) ((unhide HO1).alloc _).drew (wz.heap.size + 1) x (by simp [Act.eval]) (by omega) (news_b wz x) (a2_size _ _ _) ?_; intro v5 w5 r1 r2 hb5; obtain ⟨g5, c5, rfl⟩ := own_one r1 (by omega); have BG := hide (bel_own (bel_dr (bel_a2 wz _ _)) ((unhide HO1).alloc _).drew (Nat.le_refl _) r2); have R5 := hide r1; have k1 := ((unhide BG).cell (p := ⟨w.heap.size, 2, none⟩) hgr3).trans m3; have k2 := ((unhide BG).cell (p := ⟨b, off + i, none⟩) hbl3).trans p3; clear r1 r2) | (refine step_one rfl (.tmp 58) (.tmp 64) rfl (wz.heap.size + 1) (.slice (some ⟨wz.heap.size + 1, 0, none⟩) 0 0) 0 [] (by simp [Act.eval]) (unhide HO2).drew wz.heap.size x (by simp [Act.eval]) (by omega) (news_a wz x) (a2_size1 _ _ _) ?_; intro v5 w5 r1 r2 hb5; obtain ⟨g5, c5, rfl⟩ := own_one r1 (by omega); have BG := hide (bel_own (bel_dr (bel_a2 wz _ _)) (unhide HO2).drew (Nat.le_succ _) r2); have R5 := hide r1; have k1 := ((unhide BG).cell (p := ⟨w.heap.size, 2, none⟩) hgr3).trans m3; have k2 := ((unhide BG).cell (p := ⟨b, off + i, none⟩) hbl3).trans p3; clear r1 r2) | (refine step_none rfl (.tmp 65) (.tmp 68) rfl _ _ _ _ (by simp [Act.eval]) (unhide R5) (by simp [Act.eval]) ?_)))
          all_goals go_wp2_with fail
          all_goals go_roundw
          all_goals first
            | exact ⟨i + 1, by go_num, by omega, by rw [ds, ← unhide HL, ← unhide HX]; simp [ins], So.of (m := 1) (by rw [ds, ← unhide HL, ← unhide HX]; exact unhide R5) (by rw [ds, ← unhide HL]; rfl) (by omega), bel_into (unhide B2) (bel_into (unhide B5) (unhide BG))⟩
            | (simp [intOf]; omega)
      · obtain ⟨L, hL⟩ : ∃ L, L = l.length := ⟨_, rfl⟩
        have HLL := hide hL
        have PP := hide P
        rw [← hL] at hds hl0 hoc ⊢
        clear hL P
        have hgz := lt_of_cell p0
        obtain ⟨hs1, hs2⟩ : w.heap.size < wr.heap.size ∧ b < wr.heap.size := ⟨hgr, hbl⟩
        generalize wr = wl at *
        go_wp2_with fail
        go_loopw [6] (fun vk ws => ∃ k : Nat, vk = .int .i64 k ∧ k ≤ L ∧ (∀ j, j < k → l.getD j 0 < x) ∧ Below wl.heap.size wl ws) (fun vk _ => L - (intOf vk).toNat)
        case atStart => exact ⟨0, rfl, Nat.zero_le _, fun j h => by omega, Below.refl _ _⟩
        case round =>
          obtain ⟨k, rfl, hk, hlow, B⟩ := hrel
          have B3 := hide B
          have LOW := hide hlow
          clear hlow
          have m2r := (B.cell (p := ⟨w.heap.size, 2, none⟩) hgr).trans m2
          have p0r := (B.cell (p := ⟨b, off + i, none⟩) hbl).trans p0
          by_cases hkL : k < L
          · have hkL' : (k : Int) < (L : Int) := by omega
            have hdk : decide (k < L) = true := decide_eq_true hkL
            obtain ⟨y, hy⟩ : ∃ y, y = l.getD k 0 := ⟨_, rfl⟩
            have HY := hide hy
            have cy : wr.cell? ⟨ob, oo + k, none⟩ = some (.int .u32 y) := by rw [hy]; exact (unhide PP).below B k (by rw [← unhide HLL]; exact hkL)
            clear hy B
            by_cases hyx : y < x
            · have hyx' : (y : Int) < (x : Int) := by omega
              go_wp2_with fail
              go_quiet (fail)
              go_wp2_with fail
              go_roundw
              case rel => exact ⟨k + 1, by go_num, by omega, fun j hj => by
                rcases Nat.lt_or_ge j k with h | h
                · exact unhide LOW j h
                · obtain rfl : j = k := by omega
                  rw [← unhide HY]; exact hyx, bel_into (unhide B3) (drewN_below _ _)⟩
              case measure => simp [intOf]; omega
            · have hyx' : ¬ (y : Int) < (x : Int) := by omega
              by_cases hyy : y = x
              · subst hyy
                go_wp2_with fail
                go_quiet (fail)
                have B4 := hide (bel_into (unhide B3) (drewN_below wr nq))
                clear B3
                have cy2 : (wr.drewN nq).cell? ⟨ob, oo + k, none⟩ = some (.int .u32 y) := cy
                have m22 : (wr.drewN nq).cell? ⟨w.heap.size, 2, none⟩ = some (.slice (some ⟨b, off, none⟩) n c) := m2r
                have p02 : (wr.drewN nq).cell? ⟨b, off + i, none⟩ = some (.int .u32 y) := p0r
                clear cy m2r p0r
                generalize wr.drewN nq = wy at *
                clear nq
                go_wp2_with fail
                go_quiet (fail)
                have B5 := hide (bel_into (unhide B4) (drewN_below wy nq))
                clear B4
                generalize wy.drewN nq = wz at *
                clear nq
                go_wp2_with fail
                go_roundw
                case rel =>
                  have E : ds z (i + 1) = l := by
                    rw [ds, ← unhide HL, ← unhide HX]
                    exact ins_hit (by rw [← unhide HLL]; exact hkL) (unhide LOW) (unhide HY).symm
                  exact ⟨i + 1, by go_num, by omega, by rw [E, ← unhide HLL]; exact hds, by rw [E]; exact .inr ⟨ob, oo, oc, by rw [← unhide HLL], by rw [← unhide HLL]; exact hl0, by rw [← unhide HLL]; exact hoc, (unhide PP).below (unhide B5)⟩, bel_into (unhide B2) (unhide B5)⟩
                case measure => simp [intOf]; omega
              · have hxy : x < y := by omega
                have hyy' : ¬ (y : Int) = (x : Int) := by omega
                have EM : Hid (ds z (i + 1) = l.take k ++ x :: l.drop k) := hide (by
                  rw [ds, ← unhide HL, ← unhide HX]
                  exact ins_miss (by rw [← unhide HLL]; exact hk) (unhide LOW) (fun _ => by rw [← unhide HY]; exact hxy))
                have EL : Hid ((ds z (i + 1)).length = L + 1) := hide (by
                  rw [unhide EM, unhide HLL]
                  simp
                  rw [Nat.min_eq_left (by rw [← unhide HLL]; exact hk)]
                  have := unhide HLL
                  omega)
                go_wp2_with fail
                go_quiet (fail)
                have B4 := hide (bel_into (unhide B3) (drewN_below wr nq))
                clear B3
                have cy2 : (wr.drewN nq).cell? ⟨ob, oo + k, none⟩ = some (.int .u32 y) := cy
                have m22 : (wr.drewN nq).cell? ⟨w.heap.size, 2, none⟩ = some (.slice (some ⟨b, off, none⟩) n c) := m2r
                have p02 : (wr.drewN nq).cell? ⟨b, off + i, none⟩ = some (.int .u32 x) := p0r
                clear cy m2r p0r
                generalize wr.drewN nq = wy at *
                clear nq
                go_wp2_with fail
                go_quiet (fail)
                have B5 := hide (bel_into (unhide B4) (drewN_below wy nq))
                clear B4
                generalize wy.drewN nq = wz at *
                clear nq
                have m3 := ((unhide B5).cell (p := ⟨w.heap.size, 2, none⟩) hgr).trans m2
                have p3 := ((unhide B5).cell (p := ⟨b, off + i, none⟩) hbl).trans p0
                have hgr3 := lt_of_cell m3
                have hbl3 := lt_of_cell p3
                have PZ := hide ((unhide PP).below (unhide B5))
                clear m2 p0 hgr hbl hgz hs1 hs2 PP
                by_cases h256 : L = 256
                · have h256' : ((L : Int) == 256) = true := by rw [h256]; rfl
                  go_wp2
                  go_ret2
                  have := ds_mono z (show i + 1 ≤ n from hlt)
                  unfold RColV
                  rw [if_neg (by have := unhide EL; omega)]
                  exact ⟨rfl, bel_into (unhide BB) (unhide B5)⟩
                · have h256' : ((L : Int) == 256) = false := by simp; omega
                  go_wp2_with fail
                  have s0 : (0 : Int) ≤ (k : Int) := by omega
                  have s1 : (k : Int) ≤ (oc : Int) := by omega
                  have s2 : (k : Int) ≤ (L : Int) := by omega
                  have s3 : (L : Int) ≤ (oc : Int) := by omega
                  have O1 := own_empty wz
                  have O2 := own_empty1 wz (.cells #[.int .u32 (x : Int)] 31)
                  have HO1 := hide O1
                  have HO2 := hide O2
                  clear O1 O2
                  go_upto_region 13 with fail
                  go_region_held3 (fun w' => w'.cell? ⟨w.heap.size, 2, none⟩ = some (.slice (some ⟨b, off, none⟩) n c) ∧ w'.cell? ⟨b, off + i, none⟩ = some (.int .u32 x)) (first | exact ⟨k1, k2⟩ | go_keep) ((first | (refine step_take rfl (.tmp 54) (.tmp 57) rfl (wz.heap.size) (.slice (some ⟨wz.heap.size, 0, none⟩) 0 0) (by simp [Act.eval]) (unhide HO1).drew ob oo k oc l (by simp [Act.eval]) (by rw [← unhide HLL]; exact hk) (by rw [← unhide HLL]; omega) ((unhide PZ).below (bel_dr (bel_a1 wz _))) (bel_dr (bel_a1 wz _)).size ?_; intro v2 w2 r1 r2 hb2; have R2 := hide r1; have BA := hide (Nat.le_refl wz.heap.size); have BQ := hide (show wz.heap.size ≤ wz.heap.size from Nat.le_refl _); have BG := hide (bel_own (bel_dr (bel_a1 wz _)) (unhide HO1).drew (unhide BQ) r2); have k1 := ((unhide BG).cell (p := ⟨w.heap.size, 2, none⟩) hgr3).trans m3; have k2 := ((unhide BG).cell (p := ⟨b, off + i, none⟩) hbl3).trans p3; clear r1 r2) | (refine step_take rfl (.tmp 54) (.tmp 57) rfl (wz.heap.size) (.slice (some ⟨wz.heap.size, 0, none⟩) 0 0) (by simp [Act.eval]) ((unhide HO1).alloc _).drew ob oo k oc l (by simp [Act.eval]) (by rw [← unhide HLL]; exact hk) (by rw [← unhide HLL]; omega) ((unhide PZ).below (bel_dr (bel_a2 wz _ _))) (a2_size _ _ _) ?_; intro v2 w2 r1 r2 hb2; have R2 := hide r1; have BA := hide (Nat.le_refl wz.heap.size); have BQ := hide (show wz.heap.size ≤ wz.heap.size from Nat.le_refl _); have BG := hide (bel_own (bel_dr (bel_a2 wz _ _)) ((unhide HO1).alloc _).drew (unhide BQ) r2); have k1 := ((unhide BG).cell (p := ⟨w.heap.size, 2, none⟩) hgr3).trans m3; have k2 := ((unhide BG).cell (p := ⟨b, off + i, none⟩) hbl3).trans p3; have LIT := hide (lit_b (x := (x : Int)) r2); clear r1 r2) | (refine step_take rfl (.tmp 54) (.tmp 57) rfl (wz.heap.size + 1) (.slice (some ⟨wz.heap.size + 1, 0, none⟩) 0 0) (by simp [Act.eval]) (unhide HO2).drew ob oo k oc l (by simp [Act.eval]) (by rw [← unhide HLL]; exact hk) (by rw [← unhide HLL]; omega) ((unhide PZ).below (bel_dr (bel_a2 wz _ _))) (a2_size1 _ _ _) ?_; intro v2 w2 r1 r2 hb2; have R2 := hide r1; have BA := hide (Nat.le_refl wz.heap.size); have BQ := hide (show wz.heap.size ≤ wz.heap.size + 1 from Nat.le_succ _); have BG := hide (bel_own (bel_dr (bel_a2 wz _ _)) (unhide HO2).drew (unhide BQ) r2); have k1 := ((unhide BG).cell (p := ⟨w.heap.size, 2, none⟩) hgr3).trans m3; have k2 := ((unhide BG).cell (p := ⟨b, off + i, none⟩) hbl3).trans p3; have LIT := hide (lit_a (x := (x : Int)) r2); clear r1 r2) | (refine step_one rfl (.tmp 58) (.tmp 64) rfl _ v2 k _ (by simp [Act.eval]) (unhide R2) (wz.heap.size + 1) x (by simp [Act.eval]) (by omega) (unhide LIT) hb2 ?_; intro v4 w4 r3 r4 hb4; have R4 := hide r3; have BG4 := hide (bel_own (unhide BG) (unhide R2) (unhide BQ) r4); have k1 := ((unhide BG4).cell (p := ⟨w.heap.size, 2, none⟩) hgr3).trans m3; have k2 := ((unhide BG4).cell (p := ⟨b, off + i, none⟩) hbl3).trans p3; clear r3 r4) | (refine step_one rfl (.tmp 58) (.tmp 64) rfl _ v2 k _ (by simp [Act.eval]) (unhide R2).drew (wz.heap.size + 1) x (by simp [Act.eval]) (by omega) (unhide LIT) hb2 ?_; intro v4 w4 r3 r4 hb4; have R4 := hide r3; have BG4 := hide (bel_own (bel_dr (unhide BG)) (unhide R2).drew (unhide BQ) r4); have k1 := ((unhide BG4).cell (p := ⟨w.heap.size, 2, none⟩) hgr3).trans m3; have k2 := ((unhide BG4).cell (p := ⟨b, off + i, none⟩) hbl3).trans p3; clear r3 r4) | (refine step_one rfl (.tmp 58) (.tmp 64) rfl _ v2 k _ (by simp [Act.eval]) (unhide R2) (wz.heap.size) x (by simp [Act.eval]) (by omega) (unhide LIT) hb2 ?_; intro v4 w4 r3 r4 hb4; have R4 := hide r3; have BG4 := hide (bel_own (unhide BG) (unhide R2) (unhide BQ) r4); have k1 := ((unhide BG4).cell (p := ⟨w.heap.size, 2, none⟩) hgr3).trans m3; have k2 := ((unhide BG4).cell (p := ⟨b, off + i, none⟩) hbl3).trans p3; clear r3 r4) | (refine step_one rfl (.tmp 58) (.tmp 64) rfl _ v2 k _ (by simp [Act.eval]) (unhide R2).drew (wz.heap.size) x (by simp [Act.eval]) (by omega) (unhide LIT) hb2 ?_; intro v4 w4 r3 r4 hb4; have R4 := hide r3; have BG4 := hide (bel_own (bel_dr (unhide BG)) (unhide R2).drew (unhide BQ) r4); have k1 := ((unhide BG4).cell (p := ⟨w.heap.size, 2, none⟩) hgr3).trans m3; have k2 := ((unhide BG4).cell (p := ⟨b, off + i, none⟩) hbl3).trans p3; clear r3 r4) | (refine step_one rfl (.tmp 58) (.tmp 64) rfl _ v2 k _ (by simp [Act.eval]) ((unhide R2).alloc _) (w2.heap.size) x (by simp [Act.eval]) (by omega) (cell_one_new _ _ _) (by simp; omega) ?_; intro v4 w4 r3 r4 hb4; have R4 := hide r3; have BG4 := hide (bel_own ((unhide BG).alloc (unhide BG).size _) ((unhide R2).alloc _) (unhide BQ) r4); have k1 := ((unhide BG4).cell (p := ⟨w.heap.size, 2, none⟩) hgr3).trans m3; have k2 := ((unhide BG4).cell (p := ⟨b, off + i, none⟩) hbl3).trans p3; clear r3 r4) | (refine step_one rfl (.tmp 58) (.tmp 64) rfl _ v2 k _ (by simp [Act.eval]) ((unhide R2).alloc _).drew (w2.heap.size) x (by simp [Act.eval]) (by omega) (cell_one_new _ _ _) (by simp; omega) ?_; intro v4 w4 r3 r4 hb4; have R4 := hide r3; have BG4 := hide (bel_own (bel_dr ((unhide BG).alloc (unhide BG).size _)) ((unhide R2).alloc _).drew (unhide BQ) r4); have k1 := ((unhide BG4).cell (p := ⟨w.heap.size, 2, none⟩) hgr3).trans m3; have k2 := ((unhide BG4).cell (p := ⟨b, off + i, none⟩) hbl3).trans p3; clear r3 r4) | (refine step_drop rfl (.tmp 65) (.tmp 68) rfl _ v4 (k + 1) _ (by simp [Act.eval]) (unhide R4) ob oo k (L - k) (oc - k) l (by have ock : oc ≠ k := (by omega); simp [Act.eval, ock]) (by rw [← unhide HLL]; omega) (by rw [← unhide HLL]; omega) (by omega) ((unhide PZ).below (unhide BG4)) hb4 ?_; intro v5 w5 r5 r6 hb5; obtain ⟨g5, c5, rfl⟩ := own_one r5 (by omega); have R5 := hide r5; have BG5 := hide (bel_own (unhide BG4) (unhide R4) (unhide BQ) r6); have k1 := ((unhide BG5).cell (p := ⟨w.heap.size, 2, none⟩) hgr3).trans m3; have k2 := ((unhide BG5).cell (p := ⟨b, off + i, none⟩) hbl3).trans p3; clear r5 r6) | (refine step_drop rfl (.tmp 65) (.tmp 68) rfl _ v4 (k + 1) _ (by simp [Act.eval]) (unhide R4).drew ob oo k (L - k) (oc - k) l (by have ock : oc ≠ k := (by omega); simp [Act.eval, ock]) (by rw [← unhide HLL]; omega) (by rw [← unhide HLL]; omega) (by omega) ((unhide PZ).below (bel_dr (unhide BG4))) hb4 ?_; intro v5 w5 r5 r6 hb5; obtain ⟨g5, c5, rfl⟩ := own_one r5 (by omega); have R5 := hide r5; have BG5 := hide (bel_own (bel_dr (unhide BG4)) (unhide R4).drew (unhide BQ) r6); have k1 := ((unhide BG5).cell (p := ⟨w.heap.size, 2, none⟩) hgr3).trans m3; have k2 := ((unhide BG5).cell (p := ⟨b, off + i, none⟩) hbl3).trans p3; clear r5 r6)))
                  all_goals go_wp2_with fail
                  all_goals go_roundw
                  all_goals first
                    | exact ⟨i + 1, by go_num, by omega, by rw [unhide EL]; omega, So.of (m := k + 1 + (L - k)) (by rw [unhide EM, ← vs_join]; exact unhide R5) (by rw [unhide EL]; omega) (by omega), bel_into (unhide B2) (bel_into (unhide B5) (unhide BG5))⟩
                    | (simp [intOf]; omega)
          · obtain rfl : k = L := by omega
            have hdk : decide (k < k) = false := by simp
            have EM : Hid (ds z (i + 1) = l.take k ++ x :: l.drop k) := hide (by
              rw [ds, ← unhide HL, ← unhide HX]
              exact ins_miss (by rw [← unhide HLL]; exact hk) (unhide LOW) (fun h => by rw [← unhide HLL] at h; omega))
            have ED : Hid (l.drop k = []) := hide (by rw [unhide HLL]; simp)
            have EL : Hid ((ds z (i + 1)).length = k + 1) := hide (by
              rw [unhide EM, unhide ED, unhide HLL]
              simp)
            clear B
            go_wp2_with fail
            go_quiet (fail)
            have B4 := hide (bel_into (unhide B3) (drewN_below wr nq))
            clear B3
            have m22 : (wr.drewN nq).cell? ⟨w.heap.size, 2, none⟩ = some (.slice (some ⟨b, off, none⟩) n c) := m2r
            have p02 : (wr.drewN nq).cell? ⟨b, off + i, none⟩ = some (.int .u32 x) := p0r
            clear m2r p0r
            generalize wr.drewN nq = wy at *
            clear nq
            go_wp2_with fail
            go_quiet (fail)
            have B5 := hide (bel_into (unhide B4) (drewN_below wy nq))
            clear B4
            generalize wy.drewN nq = wz at *
            clear nq
            have m3 := ((unhide B5).cell (p := ⟨w.heap.size, 2, none⟩) hgr).trans m2
            have p3 := ((unhide B5).cell (p := ⟨b, off + i, none⟩) hbl).trans p0
            have hgr3 := lt_of_cell m3
            have hbl3 := lt_of_cell p3
            have PZ := hide ((unhide PP).below (unhide B5))
            clear m2 p0 hgr hbl hgz hs1 hs2 PP
            by_cases h256 : k = 256
            · have h256' : ((k : Int) == 256) = true := by rw [h256]; rfl
              go_wp2
              go_ret2
              have := ds_mono z (show i + 1 ≤ n from hlt)
              unfold RColV
              rw [if_neg (by have := unhide EL; omega)]
              exact ⟨rfl, bel_into (unhide BB) (unhide B5)⟩
            · have h256' : ((k : Int) == 256) = false := by simp; omega
              go_wp2_with fail
              by_cases ock : oc = k
              · have ock2 := ock.symm
                subst ock2
                have s0 : (0 : Int) ≤ (k : Int) := by omega
                have s1 : (k : Int) ≤ (k : Int) := by omega
                have s2 : (k : Int) ≤ (k : Int) := Int.le_refl _
                have s3 : (k : Int) ≤ (k : Int) := by omega
                have O1 := own_empty wz
                have O2 := own_empty1 wz (.cells #[.int .u32 (x : Int)] 31)
                have HO1 := hide O1
                have HO2 := hide O2
                clear O1 O2
                go_upto_region 13 with fail
                go_region_held3 (fun w' => w'.cell? ⟨w.heap.size, 2, none⟩ = some (.slice (some ⟨b, off, none⟩) n c) ∧ w'.cell? ⟨b, off + i, none⟩ = some (.int .u32 x)) (first | exact ⟨k1, k2⟩ | go_keep) ((first | (refine step_take rfl (.tmp 54) (.tmp 57) rfl (wz.heap.size) (.slice (some ⟨wz.heap.size, 0, none⟩) 0 0) (by simp [Act.eval]) (unhide HO1).drew ob oo k k l (by simp [Act.eval]) (by rw [← unhide HLL]; exact hk) (by rw [← unhide HLL]; omega) ((unhide PZ).below (bel_dr (bel_a1 wz _))) (bel_dr (bel_a1 wz _)).size ?_; intro v2 w2 r1 r2 hb2; have R2 := hide r1; have BA := hide (Nat.le_refl wz.heap.size); have BQ := hide (show wz.heap.size ≤ wz.heap.size from Nat.le_refl _); have BG := hide (bel_own (bel_dr (bel_a1 wz _)) (unhide HO1).drew (unhide BQ) r2); have k1 := ((unhide BG).cell (p := ⟨w.heap.size, 2, none⟩) hgr3).trans m3; have k2 := ((unhide BG).cell (p := ⟨b, off + i, none⟩) hbl3).trans p3; clear r1 r2) | (refine step_take rfl (.tmp 54) (.tmp 57) rfl (wz.heap.size) (.slice (some ⟨wz.heap.size, 0, none⟩) 0 0) (by simp [Act.eval]) ((unhide HO1).alloc _).drew ob oo k k l (by simp [Act.eval]) (by rw [← unhide HLL]; exact hk) (by rw [← unhide HLL]; omega) ((unhide PZ).below (bel_dr (bel_a2 wz _ _))) (a2_size _ _ _) ?_; intro v2 w2 r1 r2 hb2; have R2 := hide r1; have BA := hide (Nat.le_refl wz.heap.size); have BQ := hide (show wz.heap.size ≤ wz.heap.size from Nat.le_refl _); have BG := hide (bel_own (bel_dr (bel_a2 wz _ _)) ((unhide HO1).alloc _).drew (unhide BQ) r2); have k1 := ((unhide BG).cell (p := ⟨w.heap.size, 2, none⟩) hgr3).trans m3; have k2 := ((unhide BG).cell (p := ⟨b, off + i, none⟩) hbl3).trans p3; have LIT := hide (lit_b (x := (x : Int)) r2); clear r1 r2) | (refine step_take rfl (.tmp 54) (.tmp 57) rfl (wz.heap.size + 1) (.slice (some ⟨wz.heap.size + 1, 0, none⟩) 0 0) (by simp [Act.eval]) (unhide HO2).drew ob oo k k l (by simp [Act.eval]) (by rw [← unhide HLL]; exact hk) (by rw [← unhide HLL]; omega) ((unhide PZ).below (bel_dr (bel_a2 wz _ _))) (a2_size1 _ _ _) ?_; intro v2 w2 r1 r2 hb2; have R2 := hide r1; have BA := hide (Nat.le_refl wz.heap.size); have BQ := hide (show wz.heap.size ≤ wz.heap.size + 1 from Nat.le_succ _); have BG := hide (bel_own (bel_dr (bel_a2 wz _ _)) (unhide HO2).drew (unhide BQ) r2); have k1 := ((unhide BG).cell (p := ⟨w.heap.size, 2, none⟩) hgr3).trans m3; have k2 := ((unhide BG).cell (p := ⟨b, off + i, none⟩) hbl3).trans p3; have LIT := hide (lit_a (x := (x : Int)) r2); clear r1 r2) | (refine step_one rfl (.tmp 58) (.tmp 64) rfl _ v2 k _ (by simp [Act.eval]) (unhide R2) (wz.heap.size + 1) x (by simp [Act.eval]) (by omega) (unhide LIT) hb2 ?_; intro v4 w4 r3 r4 hb4; have R4 := hide r3; have BG4 := hide (bel_own (unhide BG) (unhide R2) (unhide BQ) r4); have k1 := ((unhide BG4).cell (p := ⟨w.heap.size, 2, none⟩) hgr3).trans m3; have k2 := ((unhide BG4).cell (p := ⟨b, off + i, none⟩) hbl3).trans p3; clear r3 r4) | (refine step_one rfl (.tmp 58) (.tmp 64) rfl _ v2 k _ (by simp [Act.eval]) (unhide R2).drew (wz.heap.size + 1) x (by simp [Act.eval]) (by omega) (unhide LIT) hb2 ?_; intro v4 w4 r3 r4 hb4; have R4 := hide r3; have BG4 := hide (bel_own (bel_dr (unhide BG)) (unhide R2).drew (unhide BQ) r4); have k1 := ((unhide BG4).cell (p := ⟨w.heap.size, 2, none⟩) hgr3).trans m3; have k2 := ((unhide BG4).cell (p := ⟨b, off + i, none⟩) hbl3).trans p3; clear r3 r4) | (refine step_one rfl (.tmp 58) (.tmp 64) rfl _ v2 k _ (by simp [Act.eval]) (unhide R2) (wz.heap.size) x (by simp [Act.eval]) (by omega) (unhide LIT) hb2 ?_; intro v4 w4 r3 r4 hb4; have R4 := hide r3; have BG4 := hide (bel_own (unhide BG) (unhide R2) (unhide BQ) r4); have k1 := ((unhide BG4).cell (p := ⟨w.heap.size, 2, none⟩) hgr3).trans m3; have k2 := ((unhide BG4).cell (p := ⟨b, off + i, none⟩) hbl3).trans p3; clear r3 r4) | (refine step_one rfl (.tmp 58) (.tmp 64) rfl _ v2 k _ (by simp [Act.eval]) (unhide R2).drew (wz.heap.size) x (by simp [Act.eval]) (by omega) (unhide LIT) hb2 ?_; intro v4 w4 r3 r4 hb4; have R4 := hide r3; have BG4 := hide (bel_own (bel_dr (unhide BG)) (unhide R2).drew (unhide BQ) r4); have k1 := ((unhide BG4).cell (p := ⟨w.heap.size, 2, none⟩) hgr3).trans m3; have k2 := ((unhide BG4).cell (p := ⟨b, off + i, none⟩) hbl3).trans p3; clear r3 r4) | (refine step_one rfl (.tmp 58) (.tmp 64) rfl _ v2 k _ (by simp [Act.eval]) ((unhide R2).alloc _) (w2.heap.size) x (by simp [Act.eval]) (by omega) (cell_one_new _ _ _) (by simp; omega) ?_; intro v4 w4 r3 r4 hb4; have R4 := hide r3; have BG4 := hide (bel_own ((unhide BG).alloc (unhide BG).size _) ((unhide R2).alloc _) (unhide BQ) r4); have k1 := ((unhide BG4).cell (p := ⟨w.heap.size, 2, none⟩) hgr3).trans m3; have k2 := ((unhide BG4).cell (p := ⟨b, off + i, none⟩) hbl3).trans p3; clear r3 r4) | (refine step_one rfl (.tmp 58) (.tmp 64) rfl _ v2 k _ (by simp [Act.eval]) ((unhide R2).alloc _).drew (w2.heap.size) x (by simp [Act.eval]) (by omega) (cell_one_new _ _ _) (by simp; omega) ?_; intro v4 w4 r3 r4 hb4; have R4 := hide r3; have BG4 := hide (bel_own (bel_dr ((unhide BG).alloc (unhide BG).size _)) ((unhide R2).alloc _).drew (unhide BQ) r4); have k1 := ((unhide BG4).cell (p := ⟨w.heap.size, 2, none⟩) hgr3).trans m3; have k2 := ((unhide BG4).cell (p := ⟨b, off + i, none⟩) hbl3).trans p3; clear r3 r4) | (refine step_rest rfl (.tmp 65) (.tmp 68) rfl _ v4 (k + 1) _ (by simp [Act.eval]) (unhide R4) ⟨ob, oo, none⟩ (k - k) (by simp [Act.eval]) (by omega) hb4 ?_; intro v5 w5 r5 r6 hb5; obtain ⟨g5, c5, rfl⟩ := own_one r5 (by omega); have R5 := hide r5; have BG5 := hide (bel_own (unhide BG4) (unhide R4) (unhide BQ) r6); have k1 := ((unhide BG5).cell (p := ⟨w.heap.size, 2, none⟩) hgr3).trans m3; have k2 := ((unhide BG5).cell (p := ⟨b, off + i, none⟩) hbl3).trans p3; clear r5 r6) | (refine step_rest rfl (.tmp 65) (.tmp 68) rfl _ v4 (k + 1) _ (by simp [Act.eval]) (unhide R4).drew ⟨ob, oo, none⟩ (k - k) (by simp [Act.eval]) (by omega) hb4 ?_; intro v5 w5 r5 r6 hb5; obtain ⟨g5, c5, rfl⟩ := own_one r5 (by omega); have R5 := hide r5; have BG5 := hide (bel_own (bel_dr (unhide BG4)) (unhide R4).drew (unhide BQ) r6); have k1 := ((unhide BG5).cell (p := ⟨w.heap.size, 2, none⟩) hgr3).trans m3; have k2 := ((unhide BG5).cell (p := ⟨b, off + i, none⟩) hbl3).trans p3; clear r5 r6)))
                all_goals go_wp2_with fail
                all_goals go_roundw
                all_goals first
                  | exact ⟨i + 1, by go_num, by omega, by rw [unhide EL]; omega, So.of (m := k + 1) (by have R := unhide R5; rw [unhide EM, unhide ED, ← vs_join, show vs [] = [] from rfl, List.append_nil]; exact R) (unhide EL).symm (by omega), bel_into (unhide B2) (bel_into (unhide B5) (unhide BG5))⟩
                  | (simp [intOf]; omega)
              · have s0 : (0 : Int) ≤ (k : Int) := by omega
                have s1 : (k : Int) ≤ (oc : Int) := by omega
                have s2 : (k : Int) ≤ (k : Int) := Int.le_refl _
                have s3 : (k : Int) ≤ (oc : Int) := by omega
                have O1 := own_empty wz
                have O2 := own_empty1 wz (.cells #[.int .u32 (x : Int)] 31)
                have HO1 := hide O1
                have HO2 := hide O2
                clear O1 O2
                go_upto_region 13 with fail
                go_region_held3 (fun w' => w'.cell? ⟨w.heap.size, 2, none⟩ = some (.slice (some ⟨b, off, none⟩) n c) ∧ w'.cell? ⟨b, off + i, none⟩ = some (.int .u32 x)) (first | exact ⟨k1, k2⟩ | go_keep) ((first | (refine step_take rfl (.tmp 54) (.tmp 57) rfl (wz.heap.size) (.slice (some ⟨wz.heap.size, 0, none⟩) 0 0) (by simp [Act.eval]) (unhide HO1).drew ob oo k oc l (by simp [Act.eval]) (by rw [← unhide HLL]; exact hk) (by rw [← unhide HLL]; omega) ((unhide PZ).below (bel_dr (bel_a1 wz _))) (bel_dr (bel_a1 wz _)).size ?_; intro v2 w2 r1 r2 hb2; have R2 := hide r1; have BA := hide (Nat.le_refl wz.heap.size); have BQ := hide (show wz.heap.size ≤ wz.heap.size from Nat.le_refl _); have BG := hide (bel_own (bel_dr (bel_a1 wz _)) (unhide HO1).drew (unhide BQ) r2); have k1 := ((unhide BG).cell (p := ⟨w.heap.size, 2, none⟩) hgr3).trans m3; have k2 := ((unhide BG).cell (p := ⟨b, off + i, none⟩) hbl3).trans p3; clear r1 r2) | (refine step_take rfl (.tmp 54) (.tmp 57) rfl (wz.heap.size) (.slice (some ⟨wz.heap.size, 0, none⟩) 0 0) (by simp [Act.eval]) ((unhide HO1).alloc _).drew ob oo k oc l (by simp [Act.eval]) (by rw [← unhide HLL]; exact hk) (by rw [← unhide HLL]; omega) ((unhide PZ).below (bel_dr (bel_a2 wz _ _))) (a2_size _ _ _) ?_; intro v2 w2 r1 r2 hb2; have R2 := hide r1; have BA := hide (Nat.le_refl wz.heap.size); have BQ := hide (show wz.heap.size ≤ wz.heap.size from Nat.le_refl _); have BG := hide (bel_own (bel_dr (bel_a2 wz _ _)) ((unhide HO1).alloc _).drew (unhide BQ) r2); have k1 := ((unhide BG).cell (p := ⟨w.heap.size, 2, none⟩) hgr3).trans m3; have k2 := ((unhide BG).cell (p := ⟨b, off + i, none⟩) hbl3).trans p3; have LIT := hide (lit_b (x := (x : Int)) r2); clear r1 r2) | (refine step_take rfl (.tmp 54) (.tmp 57) rfl (wz.heap.size + 1) (.slice (some ⟨wz.heap.size + 1, 0, none⟩) 0 0) (by simp [Act.eval]) (unhide HO2).drew ob oo k oc l (by simp [Act.eval]) (by rw [← unhide HLL]; exact hk) (by rw [← unhide HLL]; omega) ((unhide PZ).below (bel_dr (bel_a2 wz _ _))) (a2_size1 _ _ _) ?_; intro v2 w2 r1 r2 hb2; have R2 := hide r1; have BA := hide (Nat.le_refl wz.heap.size); have BQ := hide (show wz.heap.size ≤ wz.heap.size + 1 from Nat.le_succ _); have BG := hide (bel_own (bel_dr (bel_a2 wz _ _)) (unhide HO2).drew (unhide BQ) r2); have k1 := ((unhide BG).cell (p := ⟨w.heap.size, 2, none⟩) hgr3).trans m3; have k2 := ((unhide BG).cell (p := ⟨b, off + i, none⟩) hbl3).trans p3; have LIT := hide (lit_a (x := (x : Int)) r2); clear r1 r2) | (refine step_one rfl (.tmp 58) (.tmp 64) rfl _ v2 k _ (by simp [Act.eval]) (unhide R2) (wz.heap.size + 1) x (by simp [Act.eval]) (by omega) (unhide LIT) hb2 ?_; intro v4 w4 r3 r4 hb4; have R4 := hide r3; have BG4 := hide (bel_own (unhide BG) (unhide R2) (unhide BQ) r4); have k1 := ((unhide BG4).cell (p := ⟨w.heap.size, 2, none⟩) hgr3).trans m3; have k2 := ((unhide BG4).cell (p := ⟨b, off + i, none⟩) hbl3).trans p3; clear r3 r4) | (refine step_one rfl (.tmp 58) (.tmp 64) rfl _ v2 k _ (by simp [Act.eval]) (unhide R2).drew (wz.heap.size + 1) x (by simp [Act.eval]) (by omega) (unhide LIT) hb2 ?_; intro v4 w4 r3 r4 hb4; have R4 := hide r3; have BG4 := hide (bel_own (bel_dr (unhide BG)) (unhide R2).drew (unhide BQ) r4); have k1 := ((unhide BG4).cell (p := ⟨w.heap.size, 2, none⟩) hgr3).trans m3; have k2 := ((unhide BG4).cell (p := ⟨b, off + i, none⟩) hbl3).trans p3; clear r3 r4) | (refine step_one rfl (.tmp 58) (.tmp 64) rfl _ v2 k _ (by simp [Act.eval]) (unhide R2) (wz.heap.size) x (by simp [Act.eval]) (by omega) (unhide LIT) hb2 ?_; intro v4 w4 r3 r4 hb4; have R4 := hide r3; have BG4 := hide (bel_own (unhide BG) (unhide R2) (unhide BQ) r4); have k1 := ((unhide BG4).cell (p := ⟨w.heap.size, 2, none⟩) hgr3).trans m3; have k2 := ((unhide BG4).cell (p := ⟨b, off + i, none⟩) hbl3).trans p3; clear r3 r4) | (refine step_one rfl (.tmp 58) (.tmp 64) rfl _ v2 k _ (by simp [Act.eval]) (unhide R2).drew (wz.heap.size) x (by simp [Act.eval]) (by omega) (unhide LIT) hb2 ?_; intro v4 w4 r3 r4 hb4; have R4 := hide r3; have BG4 := hide (bel_own (bel_dr (unhide BG)) (unhide R2).drew (unhide BQ) r4); have k1 := ((unhide BG4).cell (p := ⟨w.heap.size, 2, none⟩) hgr3).trans m3; have k2 := ((unhide BG4).cell (p := ⟨b, off + i, none⟩) hbl3).trans p3; clear r3 r4) | (refine step_one rfl (.tmp 58) (.tmp 64) rfl _ v2 k _ (by simp [Act.eval]) ((unhide R2).alloc _) (w2.heap.size) x (by simp [Act.eval]) (by omega) (cell_one_new _ _ _) (by simp; omega) ?_; intro v4 w4 r3 r4 hb4; have R4 := hide r3; have BG4 := hide (bel_own ((unhide BG).alloc (unhide BG).size _) ((unhide R2).alloc _) (unhide BQ) r4); have k1 := ((unhide BG4).cell (p := ⟨w.heap.size, 2, none⟩) hgr3).trans m3; have k2 := ((unhide BG4).cell (p := ⟨b, off + i, none⟩) hbl3).trans p3; clear r3 r4) | (refine step_one rfl (.tmp 58) (.tmp 64) rfl _ v2 k _ (by simp [Act.eval]) ((unhide R2).alloc _).drew (w2.heap.size) x (by simp [Act.eval]) (by omega) (cell_one_new _ _ _) (by simp; omega) ?_; intro v4 w4 r3 r4 hb4; have R4 := hide r3; have BG4 := hide (bel_own (bel_dr ((unhide BG).alloc (unhide BG).size _)) ((unhide R2).alloc _).drew (unhide BQ) r4); have k1 := ((unhide BG4).cell (p := ⟨w.heap.size, 2, none⟩) hgr3).trans m3; have k2 := ((unhide BG4).cell (p := ⟨b, off + i, none⟩) hbl3).trans p3; clear r3 r4) | (refine step_rest rfl (.tmp 65) (.tmp 68) rfl _ v4 (k + 1) _ (by simp [Act.eval]) (unhide R4) ⟨ob, oo + k, none⟩ (oc - k) (by simp [Act.eval]) (by omega) hb4 ?_; intro v5 w5 r5 r6 hb5; obtain ⟨g5, c5, rfl⟩ := own_one r5 (by omega); have R5 := hide r5; have BG5 := hide (bel_own (unhide BG4) (unhide R4) (unhide BQ) r6); have k1 := ((unhide BG5).cell (p := ⟨w.heap.size, 2, none⟩) hgr3).trans m3; have k2 := ((unhide BG5).cell (p := ⟨b, off + i, none⟩) hbl3).trans p3; clear r5 r6) | (refine step_rest rfl (.tmp 65) (.tmp 68) rfl _ v4 (k + 1) _ (by simp [Act.eval]) (unhide R4).drew ⟨ob, oo + k, none⟩ (oc - k) (by simp [Act.eval]) (by omega) hb4 ?_; intro v5 w5 r5 r6 hb5; obtain ⟨g5, c5, rfl⟩ := own_one r5 (by omega); have R5 := hide r5; have BG5 := hide (bel_own (bel_dr (unhide BG4)) (unhide R4).drew (unhide BQ) r6); have k1 := ((unhide BG5).cell (p := ⟨w.heap.size, 2, none⟩) hgr3).trans m3; have k2 := ((unhide BG5).cell (p := ⟨b, off + i, none⟩) hbl3).trans p3; clear r5 r6)))
                all_goals go_wp2_with fail
                all_goals go_roundw
                all_goals first
                  | exact ⟨i + 1, by go_num, by omega, by rw [unhide EL]; omega, So.of (m := k + 1) (by have R := unhide R5; rw [unhide EM, unhide ED, ← vs_join, show vs [] = [] from rfl, List.append_nil]; exact R) (unhide EL).symm (by omega), bel_into (unhide B2) (bel_into (unhide B5) (unhide BG5))⟩
                  | (simp [intOf]; omega)

    · obtain rfl : i = n := by omega
      obtain ⟨a, c', rfl, L⟩ := S.lst
      have LL := hide L
      clear L S B
      go_wp2
      go_ret2
      unfold RColV
      rw [if_pos hds]
      exact ⟨a, c', rfl, unhide LL, unhide BB⟩
end Go.Proofs.Ytflmlbdcjjldgaa.TRco
