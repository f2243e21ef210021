/- Contract: the document's Unpacked. Conditions: the pixels are at most 60000. -/
import Derived.Test.YtflmlbdcjjldgaaTUnp
import Derived.Test.YtflmlbdcjjldgaaIApp
namespace Go.Proofs.Ytflmlbdcjjldgaa.TRun
set_option linter.unusedVariables false
open Go.ChangeShapes Go.WideShapes Go.ChangeAt Go.RowKit Go.Maps Go.Sort Go.Proofs.Ytflmlbdcjjldgaa.Core Go.Proofs.Ytflmlbdcjjldgaa.LBlk Go.Proofs.Ytflmlbdcjjldgaa.PNum Go.Proofs.Ytflmlbdcjjldgaa.PPrt Go.Proofs.Ytflmlbdcjjldgaa.PGoo Go.Proofs.Ytflmlbdcjjldgaa.Ims Go.Proofs.Ytflmlbdcjjldgaa.IApp Go.Proofs.Ytflmlbdcjjldgaa.TNum Go.Proofs.Ytflmlbdcjjldgaa.TLea Go.Proofs.Ytflmlbdcjjldgaa.TPkn Go.Proofs.Ytflmlbdcjjldgaa.TPak Go.Proofs.Ytflmlbdcjjldgaa.TUnp

theorem own_keep {w w' : World} {base n k : Nat} {t : TypeId} {v : Value} {xs : List Value} (h : w.ownsRow base t k v n xs) (b : Below w.heap.size w w') : w'.ownsRow base t k v n xs :=
  h.kept (row := none) ⟨b.os, b.tape, b.output, b.size, fun k hk _ => b.block k hk⟩ (by cases v.ownBlock <;> simp)
theorem pga_keep {w wr w' : World} {W H : Nat} {z : Nat → Nat} {j : Nat} {v : Value} (h : Pga w W H z j v wr) (u : Below wr.heap.size wr w') : Pga w W H z j v w' :=
  ⟨h.box.below u h.box.lt, own_keep h.own u, bel_into h.bel u⟩
theorem uv_at {t : Nat → Nat} {n : Nat} {z : Nat → Nat} {W b x y X : Nat} (hX : X < x) : uv t n z W b x (y * x + X) = if pt (z (y * W + X / 2 ^ b)) 2 / 2 ^ (X % 2 ^ b * sz b) % 2 ^ sz b < n then t (pt (z (y * W + X / 2 ^ b)) 2 / 2 ^ (X % 2 ^ b * sz b) % 2 ^ sz b) else 0 := by
  obtain ⟨h1, h2⟩ := at_div (y := y) hX
  unfold uv
  rw [h1, h2]
set_option maxRecDepth 20000 in
set_option maxHeartbeats 20000000 in
theorem runpacked20 {W H x b off m tb tq n : Nat} {z t : Nat → Nat} (c c' : Nat) {w : World} (I : Img w W H b off m z) (h1 : 1 ≤ W) (h2 : 1 ≤ H) (hm : m ≤ 60000)
    (T : Pixs w tb tq n t) (t1 : 1 ≤ n) (t2 : n ≤ 256) (x1 : 1 ≤ x) (x2 : x ≤ 16384) (hx : W = bl x (bv n)) :
    Calls Try.prog 20 #[.agg #[.int .i64 W, .int .i64 H, .slice (some ⟨b, off, none⟩) m c], .slice (some ⟨tb, tq, none⟩) n c', .int .i64 x] w fun e w' =>
      ∃ g cap, e = .returned (.tuple #[.agg #[.int .i64 x, .int .i64 H, .slice (some ⟨g, 0, none⟩) (x * H) cap], .bool true]) ∧ Gives w (x * H) g (uv t n z W (bv n) x) w' := by
  have G := hide (fun w1 => rgood25 (W : Int) (H : Int) (some ⟨b, off, none⟩) m c w1)
  rw [gd_mk h1 I.hW h2 I.hH I.hn] at G
  have PK := hide (fun w1 => rpack14 (n : Int) w1)
  obtain ⟨bb, hbb⟩ : ∃ bb, bb = bv n := ⟨_, rfl⟩
  rw [show bvI (n : Int) = bv n from rfl, ← hbb] at PK
  have hb3 : bb ≤ 3 := by rw [hbb]; exact bv_le _
  rw [← hbb] at hx ⊢
  have wl := wide_le hb3 hx
  have xh : x * H ≤ 480000 := by
    have := Nat.mul_le_mul_right H wl
    have e := I.hn
    rw [Nat.mul_assoc, ← e] at this
    omega
  have BK := hide (fun w1 => rblk16 x bb w1 x2 (by omega))
  rw [← hx] at BK
  have BX := hide (two_boxes w #[.int .i64 W, .int .i64 H, .slice (some ⟨b, off, none⟩) m c] #[.int .i64 0, .int .i64 0, .slice none 0 0] 24 24)
  have BL := hide (bel_a2 w (.cells #[.int .i64 W, .int .i64 H, .slice (some ⟨b, off, none⟩) m c] 24) (.cells #[.int .i64 0, .int .i64 0, .slice none 0 0] 24))
  have II := hide I
  have PT := hide T
  have HX := hide hx
  obtain ⟨mm, hmm⟩ : ∃ mm, mm = 2 ^ bb := ⟨_, rfl⟩
  have HMM := hide hmm
  have mm1 : 1 ≤ mm ∧ mm ≤ 8 := by rw [hmm]; rcases four_b hb3 with rfl | rfl | rfl | rfl <;> decide
  have EM : (2 : Int) ^ bb = (mm : Int) := by rw [hmm]; simp
  obtain ⟨sb, hsb⟩ : ∃ sb, sb = sz bb := ⟨_, rfl⟩
  have hsb8 : 1 ≤ sb ∧ sb ≤ 8 := by rw [hsb]; exact sz_pos hb3
  have E8 : (8 : Int).tdiv (mm : Int) = (sb : Int) := by rw [hsb, hmm]; rfl
  have hmmI : ¬ (mm : Int) = 0 := by omega
  have HSB := hide hsb
  obtain ⟨ZF, hZF⟩ : ∃ ZF : Nat → Nat, ZF = uv t n z W bb x := ⟨_, rfl⟩
  have HZF := hide hZF
  have hW16 := I.hW
  have hH16 := I.hH
  have n1 : ¬ (n : Int) < 1 := by omega
  have n2 : ¬ (256 : Int) < (n : Int) := by omega
  have y1 : ¬ (x : Int) < 1 := by omega
  have y2 : ¬ (16384 : Int) < (x : Int) := by omega
  have hWW : ((W : Int) != (W : Int)) = false := by simp
  have hbI : ¬ (bb : Int) < 0 := by omega
  clear I T hx hmm hsb hZF hbb
  go_enter Try.func20, Try.ntmps20
  go_wp2_with fail
  refine (unhide PK _).mono ?_
  rintro e w1 ⟨rfl, rfl⟩
  generalize (w.alloc (.cells #[.int .i64 W, .int .i64 H, .slice (some ⟨b, off, none⟩) m c] 24)).alloc (.cells #[.int .i64 0, .int .i64 0, .slice none 0 0] 24) = w2 at *
  obtain ⟨⟨i0, i1, i2⟩, _⟩ := box_cells (unhide BX).1
  have hgm := (unhide BX).1.lt
  go_upto_region 2 with fail
  go_cut [49] from 18 to 49 (fun s49 wx => s49 = .bool false ∧ Below w2.heap.size w2 wx)
  case first =>
    have S0 : Below w2.heap.size w2 w2 := Below.refl _ _
    have hd1 : decide ((n : Int) < 1) = false := decide_eq_false (by omega)
    have hd2 : decide ((256 : Int) < (n : Int)) = false := decide_eq_false (by omega)
    have hd3 : decide ((x : Int) < 1) = false := decide_eq_false (by omega)
    have hd4 : decide ((16384 : Int) < (x : Int)) = false := decide_eq_false (by omega)
    clear n1 n2 y1 y2
    go_region_held3 (fun w' => Below w2.heap.size w2 w' ∧ w'.cell? ⟨w.heap.size, 0, none⟩ = some (.int .i64 W) ∧ w'.cell? ⟨w.heap.size, 1, none⟩ = some (.int .i64 H) ∧ w'.cell? ⟨w.heap.size, 2, none⟩ = some (.slice (some ⟨b, off, none⟩) m c)) (first | exact ⟨S0, i0, i1, i2⟩ | exact ⟨bel_dr S0, i0, i1, i2⟩ | exact ⟨S3, j0, j1, j2⟩ | exact ⟨bel_dr S3, j0, j1, j2⟩ | exact hHeld | go_keep) (first | (go_at_call 24; refine (unhide G _).mono ?_; rintro e w3 ⟨rfl, b3⟩; have S3 : Below w2.heap.size w2 w3 := bel_into (bel_dr S0) b3; obtain ⟨⟨j0, j1, j2⟩, _⟩ := box_cells ((unhide BX).1.below S3 (unhide BX).1.lt); clear b3) | (go_at_call 36; refine (unhide BK _).mono ?_; rintro e w4 ⟨rfl, rfl⟩))
    all_goals (go_wp2_with fail; go_meet; first | exact ⟨rfl, S3⟩ | exact ⟨rfl, bel_dr S3⟩ | exact ⟨rfl, (by assumption : Below w2.heap.size w2 _ ∧ _).1⟩ | (trace_state; sorry))
  case rest =>
    obtain ⟨rfl, B0⟩ := hcut
    have B1 := hide (bel_into (unhide BL) B0)
    have BI := hide ((unhide BX).1.below B0 (unhide BX).1.lt)
    have BR := hide ((unhide BX).2.below B0 (unhide BX).2.lt)
    have TT := hide ((unhide PT).below (unhide B1))
    have PP := hide ((unhide II).px.below (unhide B1))
    clear B0 i0 i1 i2 hgm BX BL PK G BK
    obtain ⟨⟨i0, i1, i2⟩, _⟩ := box_cells (unhide BI)
    have hgm := (unhide BI).lt
    have hgr := (unhide BR).lt
    go_wp2_with fail
    go_loopw [12] (fun vy wr => ∃ (y : Nat) (v : Value), vy = .int .i64 y ∧ y ≤ H ∧ Pga wc x H ZF (y * x) v wr) (fun vy _ => H - (intOf vy).toNat)
    case atStart => exact ⟨0, _, rfl, Nat.zero_le _, by rw [Nat.zero_mul]; exact Pga.start wc x H ZF⟩
    case round =>
      obtain ⟨y, v, rfl, hy, A⟩ := hrel
      have PG := hide A
      have X2 := hide ((unhide BI).below A.bel (unhide BI).lt)
      obtain ⟨⟨m0, m1, m2⟩, _⟩ := box_cells (unhide X2)
      clear A i0 i1 i2
      by_cases hlt : y < H
      · have hlt' : (y : Int) < (H : Int) := by omega
        obtain ⟨yw, hyw⟩ : ∃ yw, yw = y * W := ⟨_, rfl⟩
        have EYW : IntKind.i64.wrap ((y : Int) * (W : Int)) = (yw : Int) := by rw [hyw]; exact row_wrap hW16 hH16 hy
        have HYW := hide hyw
        have YL : yw + W ≤ m := by
          have h : (y + 1) * W ≤ H * W := Nat.mul_le_mul_right _ hlt
          rw [Nat.succ_mul, Nat.mul_comm H W, ← (unhide II).hn, ← hyw] at h
          exact h
        have QL : y * x + x ≤ 480000 := by
          have h : (y + 1) * x ≤ H * x := Nat.mul_le_mul_right _ hlt
          rw [Nat.succ_mul, Nat.mul_comm H x] at h
          omega
        clear hyw
        go_wp2_with fail
        go_loopw [13] (fun vx wq => ∃ (X : Nat) (v : Value), vx = .int .i64 X ∧ X ≤ x ∧ Pga wc x H ZF (y * x + X) v wq) (fun vx _ => x - (intOf vx).toNat)
        case atStart => exact ⟨0, v, rfl, Nat.zero_le _, unhide PG⟩
        case round =>
          clear m0 m1 m2 X2 PG
          obtain ⟨X, v1, rfl, hX, A⟩ := hrel
          have PQ := hide A
          have X3 := hide ((unhide BI).below A.bel (unhide BI).lt)
          obtain ⟨⟨m0, m1, m2⟩, _⟩ := box_cells (unhide X3)
          by_cases hxl : X < x
          · have hxl' : (X : Int) < (x : Int) := by omega
            obtain ⟨xd, hxd⟩ : ∃ xd, xd = X / mm := ⟨_, rfl⟩
            have EXD : (X : Int).tdiv (mm : Int) = (xd : Int) := by rw [hxd]; exact tdiv_nat X mm
            have EXD2 : (X : Int) / (mm : Int) = (xd : Int) := by rw [hxd]; rfl
            obtain ⟨r, hr⟩ : ∃ r, r = X % mm := ⟨_, rfl⟩
            have ERM : (X : Int).tmod (mm : Int) = (r : Int) := by rw [hr]; exact tmod_nat X mm
            have ERM2 : (X : Int) % (mm : Int) = (r : Int) := by rw [hr]; rfl
            obtain ⟨km, hkm⟩ : ∃ km, km = r * sb := ⟨_, rfl⟩
            have EKM : (r : Int) * (sb : Int) = (km : Int) := by rw [hkm]; simp
            have xdW : xd < W := by rw [hxd, unhide HX, unhide HMM]; exact in_bl bb hxl
            have km7 : km ≤ 7 := by
              have h3 := low_le hb3 (k := r) (by rw [hr, unhide HMM]; exact Nat.mod_lt _ (Nat.two_pow_pos bb))
              rw [hkm, unhide HSB]
              have := unhide HSB
              omega
            obtain ⟨ix, hix⟩ : ∃ ix, ix = yw + xd := ⟨_, rfl⟩
            have EIX : (yw : Int) + (xd : Int) = (ix : Int) := by omega
            have ix1 : ix < m := by omega
            have ix2 : (ix : Int) < (m : Int) := by omega
            obtain ⟨P, hP⟩ : ∃ P, P = z ix := ⟨_, rfl⟩
            have px : wr.cell? ⟨b, off + ix, none⟩ = some (.int .u32 (P : Nat)) := by
              rw [hP]; exact (unhide PP).below A.bel _ ix1
            have Q2 := hide (fun w => part10 P 2 (by omega) w)
            obtain ⟨G0, hG0⟩ : ∃ G0, G0 = pt P 2 := ⟨_, rfl⟩
            rw [← hG0] at Q2
            have G0l : G0 < 256 := by rw [hG0]; exact pt_lt _ _
            have HALL := hide (And.intro hxd (And.intro hr (And.intro hkm (And.intro hix (And.intro hP hG0)))))
            clear hxd hr hkm hix hP hG0 A
            go_wp2_with fail
            go_quiet (first | (go_at_call 27; refine Calls.quiet_of_same (unhide Q2 _)))
            have PZ := hide (pga_keep (unhide PQ) (drewN_below wr nq))
            generalize wr.drewN nq = wz at *
            clear PQ m0 m1 m2 X3 px Q2
            go_wp2_with fail
            go_loopw [14, 15] (fun vg vk ws => ∃ k : Nat, vk = .int .i64 k ∧ k ≤ km ∧ vg = .int .i64 (G0 / 2 ^ k : Nat) ∧ ws = wz) (fun _ vk _ => km - (intOf vk).toNat)
            case atStart => exact ⟨0, rfl, Nat.zero_le _, by simp, rfl⟩
            case round =>
              obtain ⟨k, rfl, hk, rfl, hwz⟩ := hrel
              subst hwz
              obtain ⟨gk, hgk⟩ : ∃ gk, gk = G0 / 2 ^ k := ⟨_, rfl⟩
              have gkl : gk < 256 := by rw [hgk]; exact Nat.lt_of_le_of_lt (Nat.div_le_self _ _) G0l
              rw [← hgk]
              by_cases hkk : k < km
              · have hkk' : (k : Int) < (km : Int) := by omega
                obtain ⟨gh, hgh⟩ : ∃ gh, gh = gk / 2 := ⟨_, rfl⟩
                have EH : (gk : Int).tdiv 2 = (gh : Int) := by rw [hgh]; exact tdiv_nat gk 2
                have EH2 : (gk : Int) / 2 = (gh : Int) := by rw [hgh]; rfl
                have HGH : Hid (gh = G0 / 2 ^ (k + 1)) := hide (by rw [hgh, hgk, Nat.div_div_eq_div_mul, Nat.pow_succ])
                clear hgh hgk
                go_wp2_with fail
                go_roundw
                case rel => exact ⟨k + 1, by go_num, by omega, by rw [unhide HGH], by first | trivial | rfl⟩
                case measure => simp [intOf]; omega
              · have hkm2 : k = km := by omega
                obtain ⟨q, hq⟩ : ∃ q, q = 2 ^ sb := ⟨_, rfl⟩
                have EQ : (2 : Int) ^ sb = (q : Int) := by rw [hq]; simp
                have q1 : 1 ≤ q ∧ q ≤ 256 := by rw [hq]; have h9 : 2 ^ sb ≤ 2 ^ 8 := Nat.pow_le_pow_right (by omega) hsb8.2; exact ⟨Nat.two_pow_pos sb, h9⟩
                have q0 : ¬ (q : Int) = 0 := by omega
                obtain ⟨nn, hnn⟩ : ∃ nn, nn = gk % q := ⟨_, rfl⟩
                have EN : (gk : Int).tmod (q : Int) = (nn : Int) := by rw [hnn]; exact tmod_nat gk q
                have EN2 : (gk : Int) % (q : Int) = (nn : Int) := by rw [hnn]; rfl
                obtain ⟨tv, htv⟩ : ∃ tv, tv = if nn < n then t nn else 0 := ⟨_, rfl⟩
                have hZ : ZF (y * x + X) = tv := by
                  obtain ⟨a1, a2, a3, a4, a5, a6⟩ := unhide HALL
                  rw [unhide HZF, uv_at hxl, ← unhide HMM, ← unhide HSB, ← a1, ← a2, ← a3, ← unhide HYW, ← a4, ← a5, ← a6, htv, hnn, hgk, hkm2, hq]
                obtain ⟨qq, hqq⟩ : ∃ qq, qq = y * x + X := ⟨_, rfl⟩
                have hq6 : qq < 480000 := by omega
                rw [← hqq] at hZ PZ
                have HQ := hide hqq
                have HU := hide hZ
                obtain ⟨iT, hi0, hz0, hz1, hz2⟩ := info_parts info22
                obtain ⟨va, vc, rfl⟩ := own_slice (unhide PZ).own
                have hgd := (unhide PZ).box.lt
                obtain ⟨⟨d0, d1, d2⟩, f0, f1, f2⟩ := box_cells (unhide PZ).box
                have hbl := (unhide PZ).bel.size
                clear hZ hqq hq hgk hkm2
                by_cases hnl : nn < n
                · have hnl' : (nn : Int) < (n : Int) := by omega
                  rw [if_pos hnl] at htv
                  have tx : wr.cell? ⟨tb, tq + nn, none⟩ = some (.int .u32 (tv : Nat)) := by rw [htv]; exact (unhide TT).below (unhide PZ).bel nn hnl
                  clear htv hnn
                  go_wp2_with (first | (at_builtin; refine wpList_append_own_at _ rfl (.tmp 109) (.tmp 111) 22 rfl (wc.heap.size + 1) 31 iT (.int .u32 0) 1 4 Try.underlying22 hi0 hz0 hz1 hz2 rfl (by decide) _ qq (pcells ZF qq) rfl ((unhide PZ).own.alloc _) ⟨wr.heap.size, 0, none⟩ 1 1 [.int .u32 tv] rfl rfl (cell_one_new _ _ _) (one_one _ _) (by unfold maxLen; omega) (by omega) (by simp; omega) ?_; intro v1 w6 own1 gr1 _ _; have BX1 := (unhide PZ).box1 gr1; have PA := hide ((unhide PZ).app own1 gr1 (congrArg Int.ofNat (unhide HU).symm)); clear d0 d1 d2 f0 f1 f2; obtain ⟨⟨d0, d1, d2⟩, f0, f1, f2⟩ := box_cells BX1; have hd21 := BX1.lt; obtain ⟨ua, uc, rfl⟩ := own_slice own1; clear own1 gr1 BX1) | fail)
                  go_roundw
                  case rel => exact ⟨X + 1, _, by go_num, by omega, by rw [show y * x + (X + 1) = qq + 1 by rw [unhide HQ]; omega]; exact unhide PA⟩
                  case measure => simp [intOf]; omega
                · have hnl' : ¬ (nn : Int) < (n : Int) := by omega
                  rw [if_neg hnl] at htv
                  have HU2 := hide (show (0 : Int) = ((ZF qq : Nat) : Int) by rw [unhide HU, htv]; rfl)
                  clear htv hnn
                  go_wp2_with (first | (at_builtin; refine wpList_append_own_at _ rfl (.tmp 109) (.tmp 111) 22 rfl (wc.heap.size + 1) 31 iT (.int .u32 0) 1 4 Try.underlying22 hi0 hz0 hz1 hz2 rfl (by decide) _ qq (pcells ZF qq) rfl ((unhide PZ).own.alloc _) ⟨wr.heap.size, 0, none⟩ 1 1 [.int .u32 0] rfl rfl (cell_one_new _ _ _) (one_one _ _) (by unfold maxLen; omega) (by omega) (by simp; omega) ?_; intro v1 w6 own1 gr1 _ _; have BX1 := (unhide PZ).box1 gr1; have PA := hide ((unhide PZ).app own1 gr1 (unhide HU2)); clear d0 d1 d2 f0 f1 f2; obtain ⟨⟨d0, d1, d2⟩, f0, f1, f2⟩ := box_cells BX1; have hd21 := BX1.lt; obtain ⟨ua, uc, rfl⟩ := own_slice own1; clear own1 gr1 BX1) | fail)
                  go_roundw
                  case rel => exact ⟨X + 1, _, by go_num, by omega, by rw [show y * x + (X + 1) = qq + 1 by rw [unhide HQ]; omega]; exact unhide PA⟩
                  case measure => simp [intOf]; omega
          · have hxw : x = X := by omega
            subst hxw
            clear A
            go_wp2_with fail
            go_roundw
            case rel => exact ⟨y + 1, v1, by go_num, by omega, by rw [Nat.succ_mul]; exact unhide PQ⟩
            case measure => simp [intOf]; omega
      · have hyH : H = y := by omega
        subst hyH
        have hwh : 0 < x * H := Nat.mul_pos x1 h2
        have PG2 : Pga wc x H ZF (x * H) v wr := by rw [Nat.mul_comm]; exact unhide PG
        obtain ⟨g, cz, rfl, pw, hg1, hg2⟩ := own_pow PG2.own hwh
        have R2 := hide ((unhide BR).below PG2.bel (unhide BR).lt)
        obtain ⟨⟨r0, r1, r2⟩, k0, k1, k2⟩ := box_cells (unhide R2)
        have hgr2 := (unhide R2).lt
        have PW := hide pw
        have BB := hide (bel_into (unhide B1) PG2.bel)
        obtain ⟨⟨d0, d1, d2⟩, f0, f1, f2⟩ := box_cells PG2.box
        clear PG2 pw PG
        have NG : g ≠ w.heap.size + 1 := by omega
        go_wp2
        have B3 := box3 (x := .int .i64 x) (y := .int .i64 H) (s := .slice (some ⟨g, 0, none⟩) (x * H) cz) (unhide R2)
        refine bodyPost_ret (results_row_tmp rfl _ _ (w.heap.size + 1) 24 #[.int .i64 x, .int .i64 H, .slice (some ⟨g, 0, none⟩) (x * H) cz] (0, 0) _ rfl B3 Try.underlying24 rfl (by kernel_rfl)) rfl ?_
        have hzf := unhide HZF
        subst hzf
        exact ⟨g, cz, rfl, (((unhide PW).other (p := ⟨w.heap.size + 1, 0, none⟩) NG _).other (p := ⟨w.heap.size + 1, 1, none⟩) NG _).other (p := ⟨w.heap.size + 1, 2, none⟩) NG _, by omega, below3 (unhide BB) (by omega)⟩
end Go.Proofs.Ytflmlbdcjjldgaa.TRun
