/- Contract: the document's Packed. Conditions: the pixels are at most 60000. -/
import Derived.Test.YtflmlbdcjjldgaaTPak
import Derived.Test.YtflmlbdcjjldgaaPRmk
import Derived.Test.YtflmlbdcjjldgaaIApp
namespace Go.Proofs.Ytflmlbdcjjldgaa.TRpk
set_option linter.unusedVariables false
open Go.ChangeShapes Go.WideShapes Go.ChangeAt Go.RowKit Go.Maps Go.Sort Go.Proofs.Ytflmlbdcjjldgaa.Core Go.Proofs.Ytflmlbdcjjldgaa.LBlk Go.Proofs.Ytflmlbdcjjldgaa.PNum Go.Proofs.Ytflmlbdcjjldgaa.PPrt Go.Proofs.Ytflmlbdcjjldgaa.PRmk Go.Proofs.Ytflmlbdcjjldgaa.PGoo Go.Proofs.Ytflmlbdcjjldgaa.Ims Go.Proofs.Ytflmlbdcjjldgaa.IApp Go.Proofs.Ytflmlbdcjjldgaa.TNum Go.Proofs.Ytflmlbdcjjldgaa.TLea Go.Proofs.Ytflmlbdcjjldgaa.TPkn Go.Proofs.Ytflmlbdcjjldgaa.TPak

theorem own_keep {w w' : World} {base n k : Nat} {t : TypeId} {v : Value} {xs : List Value} (h : w.ownsRow base t k v n xs) (b : Below w.heap.size w w') : w'.ownsRow base t k v n xs :=
  h.kept (row := none) ⟨b.os, b.tape, b.output, b.size, fun k hk _ => b.block k hk⟩ (by cases v.ownBlock <;> simp)
theorem pga_keep {w wr w' : World} {W H : Nat} {z : Nat → Nat} {j : Nat} {v : Value} (h : Pga w W H z j v wr) (u : Below wr.heap.size wr w') : Pga w W H z j v w' :=
  ⟨h.box.below u h.box.lt, own_keep h.own u, bel_into h.bel u⟩
/-- No image, and no. -/
def RNo (w : World) (e : Ending) (w' : World) : Prop := e = .returned (.tuple #[.agg #[.int .i64 0, .int .i64 0, .slice none 0 0], .bool false]) ∧ Below w.heap.size w w'
/-- What the document's Packed answers of what may be. -/
def RPakV (w : World) (W H m : Nat) (z : Nat → Nat) (n : Nat) (t : Nat → Nat) (e : Ending) (w' : World) : Prop :=
  if ∀ i, i < m → nm t n (z i) < n then ∃ g cap, e = .returned (.tuple #[.agg #[.int .i64 (bl W (bv n)), .int .i64 H, .slice (some ⟨g, 0, none⟩) (bl W (bv n) * H) cap], .bool true]) ∧ Gives w (bl W (bv n) * H) g (fun j => 4278190080 + 256 * gw t n z W (bv n) j) w'
  else RNo w e w'
theorem gw_at {t : Nat → Nat} {n : Nat} {z : Nat → Nat} {W b x y : Nat} (hx : x < bl W b) : gw t n z W b (y * bl W b + x) = gs (fun k => nm t n (z (y * W + (x * 2 ^ b + k)))) W (sz b) (x * 2 ^ b) (2 ^ b) := by
  obtain ⟨h1, h2⟩ := at_div (y := y) hx
  unfold gw
  rw [h2]
  refine gs_congr fun k _ _ => ?_
  unfold nf bg
  rw [h1, h2, Nat.add_assoc]
theorem rmake_g (G : Nat) (hG : G < 256) (w : World) : Calls Try.prog 28 #[.agg #[.int .i64 255, .int .i64 0, .int .i64 G, .int .i64 0]] w fun e w' => e = .returned (.int .u32 (4278190080 + 256 * G : Nat)) ∧ Below w.heap.size w w' := by
  have h := make29 (fun k => if k = 0 then 255 else if k = 2 then (G : Int) else 0) w (fun k hk => by
    show -1000000 ≤ (if k = 0 then (255 : Int) else if k = 2 then (G : Int) else 0) ∧ (if k = 0 then (255 : Int) else if k = 2 then (G : Int) else 0) ≤ 1000000
    split
    · omega
    · split <;> omega)
  have e : mk (fun k => rnd ((fun k => if k = 0 then 255 else if k = 2 then (G : Int) else 0 : Nat → Int) k)) = 4278190080 + 256 * G := by
    simp [mk, rnd]
    omega
  rw [e] at h
  exact h
theorem fit_tm {f : Nat → Nat} {W b x k n : Nat} (hb : b ≤ 3) (hk : k < 2 ^ b) (h : f k < 2 ^ sz b) : f k * 2 ^ (sz b * k) < 256 := by
  have f2 := low_le hb hk
  have f3 : (f k + 1) * 2 ^ (sz b * k) ≤ 2 ^ sz b * 2 ^ (sz b * k) := Nat.mul_le_mul_right _ h
  rw [← Nat.pow_add] at f3
  have f4 : 2 ^ (sz b + sz b * k) ≤ 2 ^ 8 := Nat.pow_le_pow_right (by omega) (by rw [Nat.mul_comm (sz b) k]; omega)
  have f5 := Nat.two_pow_pos (sz b * k)
  rw [Nat.add_mul] at f3
  omega
theorem sz_all {b : Nat} (hb : b ≤ 3) : sz b * 2 ^ b = 8 := by rcases four_b hb with rfl | rfl | rfl | rfl <;> decide
theorem rpacked18_img {W H : Int} (a a' : Option Addr) (n c m c' : Nat) (w : World) (hg : gdV W H n = false) :
    Calls Try.prog 18 #[.agg #[.int .i64 W, .int .i64 H, .slice a n c], .slice a' m c'] w fun e w' => RNo w e w' := by
  have G := hide (fun w1 => rgood25 W H a n c w1)
  rw [hg] at G
  have BX := hide (two_boxes w #[.int .i64 W, .int .i64 H, .slice a n c] #[.int .i64 0, .int .i64 0, .slice none 0 0] 24 24)
  have BL := hide (bel_a2 w (.cells #[.int .i64 W, .int .i64 H, .slice a n c] 24) (.cells #[.int .i64 0, .int .i64 0, .slice none 0 0] 24))
  go_enter Try.func18, Try.ntmps18
  go_wp2_with fail
  refine (unhide G _).mono ?_
  rintro e w1 ⟨rfl, b1⟩
  have B1 := hide (below_two (unhide BL) b1)
  have BY := hide ((unhide BX).2.below b1 (unhide BX).2.lt)
  obtain ⟨⟨d0, d1, d2⟩, e0, e1, e2⟩ := box_cells (unhide BY)
  clear b1
  go_wp2
  have B3 := box3 (x := .int .i64 0) (y := .int .i64 0) (s := .slice none 0 0) (unhide BY)
  exact bodyPost_ret (results_row_tmp rfl _ _ (w.heap.size + 1) 24 #[.int .i64 0, .int .i64 0, .slice none 0 0] (0, 0) _ rfl B3 Try.underlying24 rfl (by kernel_rfl)) rfl ⟨rfl, below3 (unhide B1) (by omega)⟩
theorem rpacked18_tab {W H : Int} (a a' : Option Addr) (n c m c' : Nat) (w : World) (hg : gdV W H n = true) (ht : m < 1 ∨ 256 < m) :
    Calls Try.prog 18 #[.agg #[.int .i64 W, .int .i64 H, .slice a n c], .slice a' m c'] w fun e w' => RNo w e w' := by
  have G := hide (fun w1 => rgood25 W H a n c w1)
  rw [hg] at G
  have BX := hide (two_boxes w #[.int .i64 W, .int .i64 H, .slice a n c] #[.int .i64 0, .int .i64 0, .slice none 0 0] 24 24)
  have BL := hide (bel_a2 w (.cells #[.int .i64 W, .int .i64 H, .slice a n c] 24) (.cells #[.int .i64 0, .int .i64 0, .slice none 0 0] 24))
  go_enter Try.func18, Try.ntmps18
  go_wp2_with fail
  refine (unhide G _).mono ?_
  rintro e w1 ⟨rfl, b1⟩
  have B1 := hide (below_two (unhide BL) b1)
  have BY := hide ((unhide BX).2.below b1 (unhide BX).2.lt)
  obtain ⟨⟨d0, d1, d2⟩, e0, e1, e2⟩ := box_cells (unhide BY)
  clear b1
  rcases ht with ht | ht
  · have ht' : (m : Int) < 1 := by omega
    go_wp2
    have B3 := box3 (x := .int .i64 0) (y := .int .i64 0) (s := .slice none 0 0) (unhide BY)
    exact bodyPost_ret (results_row_tmp rfl _ _ (w.heap.size + 1) 24 #[.int .i64 0, .int .i64 0, .slice none 0 0] (0, 0) _ rfl B3 Try.underlying24 rfl (by kernel_rfl)) rfl ⟨rfl, below3 (unhide B1) (by omega)⟩
  · have ht' : ¬ (m : Int) < 1 := by omega
    have ht2 : (256 : Int) < (m : Int) := by omega
    go_wp2
    have B3 := box3 (x := .int .i64 0) (y := .int .i64 0) (s := .slice none 0 0) (unhide BY)
    exact bodyPost_ret (results_row_tmp rfl _ _ (w.heap.size + 1) 24 #[.int .i64 0, .int .i64 0, .slice none 0 0] (0, 0) _ rfl B3 Try.underlying24 rfl (by kernel_rfl)) rfl ⟨rfl, below3 (unhide B1) (by omega)⟩
set_option maxRecDepth 20000 in
set_option maxHeartbeats 40000000 in
theorem rpacked18 {W H b off m tb tq n : Nat} {z t : Nat → Nat} (c c' : Nat) {w : World} (I : Img w W H b off m z) (h1 : 1 ≤ W) (h2 : 1 ≤ H) (hm : m ≤ 60000)
    (T : Pixs w tb tq n t) (t1 : 1 ≤ n) (t2 : n ≤ 256) :
    Calls Try.prog 18 #[.agg #[.int .i64 W, .int .i64 H, .slice (some ⟨b, off, none⟩) m c], .slice (some ⟨tb, tq, none⟩) n c'] w fun e w' => RPakV w W H m z n t e w' := by
  have G := hide (fun w1 => rgood25 (W : Int) (H : Int) (some ⟨b, off, none⟩) m c w1)
  rw [gd_mk h1 I.hW h2 I.hH I.hn] at G
  have PK := hide (fun w1 => rpack14 (n : Int) w1)
  obtain ⟨bb, hbb⟩ : ∃ bb, bb = bv n := ⟨_, rfl⟩
  rw [show bvI (n : Int) = bv n from rfl, ← hbb] at PK
  have hb3 : bb ≤ 3 := by rw [hbb]; exact bv_le _
  obtain ⟨wd, hwd⟩ : ∃ wd, wd = bl W bb := ⟨_, rfl⟩
  have wd1 : wd ≤ W := by rw [hwd]; exact bl_le W bb
  have wd0 : 0 < wd := by rw [hwd]; exact bl_pos bb h1
  have BK := hide (fun w1 => rblk16 W bb w1 I.hW (by omega))
  rw [← hwd] at BK
  have wh : wd * H ≤ m := by rw [I.hn]; exact Nat.mul_le_mul_right _ wd1
  have BX := hide (two_boxes w #[.int .i64 W, .int .i64 H, .slice (some ⟨b, off, none⟩) m c] #[.int .i64 0, .int .i64 0, .slice none 0 0] 24 24)
  have BL := hide (bel_a2 w (.cells #[.int .i64 W, .int .i64 H, .slice (some ⟨b, off, none⟩) m c] 24) (.cells #[.int .i64 0, .int .i64 0, .slice none 0 0] 24))
  have II := hide I
  have PT := hide T
  have HBB := hide hbb
  have HWD := hide hwd
  obtain ⟨mm, hmm⟩ : ∃ mm, mm = 2 ^ bb := ⟨_, rfl⟩
  have HMM := hide hmm
  have mm1 : 1 ≤ mm ∧ mm ≤ 8 := by rw [hmm]; rcases four_b hb3 with rfl | rfl | rfl | rfl <;> decide
  have EM : (2 : Int) ^ bb = (mm : Int) := by rw [hmm]; simp
  have hW16 := I.hW
  have hH16 := I.hH
  clear I T hbb hwd hmm
  go_enter Try.func18, Try.ntmps18
  go_wp2_with fail
  refine (unhide G _).mono ?_
  rintro e w1 ⟨rfl, b1⟩
  have B1 := hide (below_two (unhide BL) b1)
  have BR := hide ((unhide BX).2.below b1 (unhide BX).2.lt)
  have BI := hide ((unhide BX).1.below b1 (unhide BX).1.lt)
  have TT := hide ((unhide PT).below (unhide B1))
  have PP := hide ((unhide II).px.below (unhide B1))
  have HN := (unhide BR).lt
  clear b1 G BX BL
  have n1 : ¬ (n : Int) < 1 := by omega
  have n2 : ¬ (256 : Int) < (n : Int) := by omega
  go_wp2_with fail
  refine (unhide PK _).mono ?_
  rintro e w2 ⟨rfl, hw2⟩
  subst hw2
  have hbI : ¬ (bb : Int) < 0 := by omega
  obtain ⟨⟨i0, i1, i2⟩, _⟩ := box_cells (unhide BI)
  have hgm := (unhide BI).lt
  go_upto_region 5 with fail
  obtain ⟨ZF, hZF⟩ : ∃ ZF : Nat → Nat, ZF = fun j => 4278190080 + 256 * gw t n z W bb j := ⟨_, rfl⟩
  have HZF := hide hZF
  clear hZF
  go_cut [8] from 34 to 40 (fun s8 wx => s8 = .pointer (some ⟨w2.heap.size, 0, none⟩) ∧ Pga w2 wd H ZF 0 (.slice none 0 0) wx)
  case first =>
    go_region_law (first | (go_simp; go_at_call 36; with_reducible refine Calls.mono (unhide BK _) ?_; rintro e w' ⟨rfl, rfl⟩))
    all_goals (go_wp2_with fail; go_meet; exact ⟨rfl, Pga.drew (Pga.start w2 wd H ZF)⟩)
  case rest =>
    obtain ⟨rfl, A0⟩ := hcut
    have P0 := hide A0
    clear A0 i0 i1 i2
    go_wp2_with fail
    go_loopw [9] (fun vy wr => ∃ (y : Nat) (v : Value), vy = .int .i64 y ∧ y ≤ H ∧ (∀ i, i < y * W → nm t n (z i) < n) ∧ Pga w2 wd H ZF (y * wd) v wr) (fun vy _ => H - (intOf vy).toNat)
    case atStart => exact ⟨0, _, rfl, Nat.zero_le _, fun i h => by omega, by simpa using unhide P0⟩
    case round =>
      obtain ⟨y, v, rfl, hy, hall, A⟩ := hrel
      have PG := hide A
      have HA := hide hall
      have X2 := hide ((unhide BI).below A.bel (unhide BI).lt)
      obtain ⟨⟨m0, m1, m2⟩, _⟩ := box_cells (unhide X2)
      obtain ⟨⟨d0, d1, d2⟩, f0, f1, f2⟩ := box_cells A.box
      clear A hall
      by_cases hlt : y < H
      · have hlt' : (y : Int) < (H : Int) := by omega
        obtain ⟨yw, hyw⟩ : ∃ yw, yw = y * W := ⟨_, rfl⟩
        have EYW : IntKind.i64.wrap ((y : Int) * (W : Int)) = (yw : Int) := by rw [hyw]; exact row_wrap hW16 hH16 hy
        have HYW := hide hyw
        have YL : yw + W ≤ m := by
          have h : (y + 1) * W ≤ H * W := Nat.mul_le_mul_right _ hlt
          rw [Nat.succ_mul, Nat.mul_comm H W, ← (unhide II).hn, ← hyw] at h
          exact h
        have QL : y * wd + wd ≤ m := by
          have h : (y + 1) * wd ≤ H * wd := Nat.mul_le_mul_right _ hlt
          rw [Nat.succ_mul, Nat.mul_comm H wd] at h
          omega
        clear hyw
        go_wp2_with fail
        go_loopw [10] (fun vx wq => ∃ (x : Nat) (v : Value), vx = .int .i64 x ∧ x ≤ wd ∧ (∀ X, X < x * mm → X < W → nm t n (z (yw + X)) < n) ∧ Pga w2 wd H ZF (y * wd + x) v wq) (fun vx _ => wd - (intOf vx).toNat)
        case atStart => exact ⟨0, v, rfl, Nat.zero_le _, fun X h => by omega, unhide PG⟩
        case round =>
          clear m0 m1 m2 X2 PG d0 d1 d2 f0 f1 f2
          obtain ⟨x, v1, rfl, hx, hall, A⟩ := hrel
          have PQ := hide A
          have HB := hide hall
          obtain ⟨⟨d0, d1, d2⟩, f0, f1, f2⟩ := box_cells A.box
          clear A hall
          by_cases hxl : x < wd
          · have hxl' : (x : Int) < (wd : Int) := by omega
            obtain ⟨xm, hxm⟩ : ∃ xm, xm = x * mm := ⟨_, rfl⟩
            have XML : xm ≤ 131072 := by rw [hxm]; exact Nat.le_trans (Nat.mul_le_mul (show x ≤ 16384 by omega) mm1.2) (by omega)
            have EXM : IntKind.i64.wrap ((x : Int) * (mm : Int)) = (xm : Int) := by
              rw [← Int.natCast_mul, ← hxm]
              simp [IntKind.wrap, IntKind.bits, IntKind.signed]; omega
            have HXM := hide hxm
            obtain ⟨F, hF⟩ : ∃ F : Nat → Nat, F = fun k => nm t n (z (yw + (xm + k))) := ⟨_, rfl⟩
            obtain ⟨TOT, hTOT⟩ : ∃ TOT, TOT = gs F W (sz bb) xm mm := ⟨_, rfl⟩
            have HF := hide hF
            have HTOT := hide hTOT
            clear hxm hF hTOT
            go_wp2_with fail
            go_loopw [11, 12] (fun vg vk wz => ∃ (k1 GG : Nat) (kI : Int), vk = .int .i64 kI ∧ kI + 1 = (k1 : Int) ∧ vg = .int .i64 GG ∧ k1 ≤ mm ∧ GG ≤ 256 * (mm - k1) ∧ GG + gs F W (sz bb) xm k1 = TOT ∧ (∀ k, k1 ≤ k → k < mm → xm + k < W → F k < n) ∧ Pga w2 wd H ZF (y * wd + x) v1 wz) (fun _ vk _ => (intOf vk + 1).toNat)
            case atStart => exact ⟨mm, 0, _, rfl, by omega, rfl, Nat.le_refl _, by omega, by rw [Nat.zero_add]; exact (unhide HTOT).symm, fun k _ _ => by omega, unhide PQ⟩
            case round =>
              clear PQ d0 d1 d2 f0 f1 f2
              obtain ⟨k1, GG, kI, rfl, hkI, rfl, hk1, hGG, hS, hall, A⟩ := hrel
              have PZ := hide A
              have HS := hide hS
              have HC := hide hall
              have X3 := hide ((unhide BI).below A.bel (unhide BI).lt)
              obtain ⟨⟨m0, m1, m2⟩, _⟩ := box_cells (unhide X3)
              clear A hS hall
              cases k1 with
              | zero =>
                obtain rfl : kI = -1 := by omega
                have hGT : GG = TOT := by have := unhide HS; simp [gs] at this; exact this
                have hall0 := unhide HC
                have hG : GG < 256 := by
                  rw [hGT, unhide HTOT]
                  have l := gs_lt (f := F) (W := W) (s := sz bb) (x := xm) (t := mm) fun k hk hx => by
                    rw [unhide HBB]
                    exact num_fits t2 (hall0 k (Nat.zero_le _) hk hx)
                  have e8 : sz bb * mm = 8 := by rw [unhide HMM]; exact sz_all hb3
                  rw [e8] at l
                  exact l
                have hU : ZF (y * wd + x) = 4278190080 + 256 * GG := by
                  rw [unhide HZF]
                  show 4278190080 + 256 * gw t n z W bb (y * wd + x) = _
                  have e := gw_at (t := t) (n := n) (z := z) (W := W) (b := bb) (y := y) (x := x) (by rw [← unhide HWD]; exact hxl)
                  rw [← unhide HWD, ← unhide HMM, ← unhide HYW, ← unhide HXM] at e
                  rw [hGT, unhide HTOT, unhide HF, e]
                have HREL := hide (show ∀ X, X < (x + 1) * mm → X < W → nm t n (z (yw + X)) < n from fun X hX hXW => by
                  by_cases h : X < x * mm
                  · exact unhide HB X h hXW
                  · have hXM := unhide HXM
                    rw [Nat.succ_mul] at hX
                    have h7 := hall0 (X - xm) (Nat.zero_le _) (by omega) (by omega)
                    rw [unhide HF] at h7
                    have h8 : nm t n (z (yw + (xm + (X - xm)))) < n := h7
                    rw [show xm + (X - xm) = X by omega] at h8
                    exact h8)
                obtain ⟨va, vc, rfl⟩ := own_slice (unhide PZ).own
                have QM := hide (fun w => rmake_g GG hG w)
                obtain ⟨u, hu⟩ : ∃ u, u = 4278190080 + 256 * GG := ⟨_, rfl⟩
                have HU : Hid (ZF (y * wd + x) = u) := hide (by rw [hU, hu])
                rw [← hu] at QM
                obtain ⟨qq, hq⟩ : ∃ qq, qq = y * wd + x := ⟨_, rfl⟩
                have hq6 : qq < 60000 := by omega
                rw [← hq] at PZ HU ⊢
                have HQ := hide hq
                have hgd := (unhide PZ).box.lt
                obtain ⟨⟨d0, d1, d2⟩, f0, f1, f2⟩ := box_cells (unhide PZ).box
                clear hu hU hGT hall0 hq hG QL YL
                go_upto_region 23 with fail
                go_region_law (first | (refine step_app rfl (.tmp 109) (.tmp 113) rfl (w2.heap.size + 1) (.slice va qq vc) qq (pcells ZF qq) (by simp [Act.eval]) ((unhide P6).own.alloc _) ⟨w6.heap.size, 0, none⟩ 1 1 [.int .u32 u] (by simp [Act.eval]) rfl (cell_one_new _ _ _) (one_one _ _) (by omega) (by have := (unhide P6).box.lt; simp; omega) ?_; intro v' w' own1 gr1; have BX1 := (unhide P6).box1 gr1; have PA := hide ((unhide P6).app own1 gr1 (congrArg Int.ofNat (unhide HU).symm)); obtain ⟨⟨d01, d11, d21⟩, f01, f11, f21⟩ := box_cells BX1; have hd21 := BX1.lt; obtain ⟨ua, uc, rfl⟩ := own_slice own1; clear own1 gr1 BX1) | (go_simp; go_at_call 28; with_reducible refine Calls.mono (unhide QM _) ?_; rintro e w6 ⟨rfl, b6⟩; have P6 := hide (pga_keep (Pga.drew (unhide PZ)) b6); obtain ⟨⟨d06, d16, d26⟩, f06, f16, f26⟩ := box_cells (unhide P6).box; have hgd6 := (unhide P6).box.lt; clear b6))
                all_goals
                  go_wp2_with fail
                  go_roundw
                  case rel => exact ⟨x + 1, _, by go_num, by omega, unhide HREL, by rw [show y * wd + (x + 1) = qq + 1 by rw [unhide HQ]; omega]; exact unhide PA⟩
                  case measure => simp [intOf]; omega
              | succ k =>
                obtain rfl : kI = (k : Int) := by omega
                have hk0 : (0 : Int) ≤ (k : Int) := by omega
                by_cases hw : xm + k < W
                · have hw' : (xm : Int) + (k : Int) < (W : Int) := by omega
                  obtain ⟨P, hP⟩ : ∃ P, P = z (yw + (xm + k)) := ⟨_, rfl⟩
                  obtain ⟨ix, hix⟩ : ∃ ix, ix = yw + (xm + k) := ⟨_, rfl⟩
                  have EIX : (yw : Int) + (xm : Int) + (k : Int) = (ix : Int) := by omega
                  have i1 : ix < m := by omega
                  have i1' : (ix : Int) < (m : Int) := by omega
                  have PX : ∀ ws : World, Below w2.heap.size w2 ws → ws.cell? ⟨b, off + ix, none⟩ = some (.int .u32 (P : Nat)) := fun ws u => by
                    rw [hP, ← hix]; exact (unhide PP).below u _ i1
                  have PXH := hide PX
                  have HP := hide hP
                  obtain ⟨NN, hNN⟩ : ∃ NN, NN = nm t n P := ⟨_, rfl⟩
                  have HNN := hide hNN
                  have HIX := hide hix
                  clear PX hP hNN m0 m1 m2 hix
                  obtain ⟨⟨m0, m1, m2⟩, _⟩ := box_cells (unhide X3)
                  go_wp2_with fail
                  go_loopw [13] (fun vn ws => ∃ j : Nat, vn = .int .i64 j ∧ j ≤ n ∧ fr t P j (n - j) = NN ∧ Pga w2 wd H ZF (y * wd + x) v1 ws) (fun vn _ => n - (intOf vn).toNat)
                  case atStart => exact ⟨0, rfl, Nat.zero_le _, (unhide HNN).symm, unhide PZ⟩
                  case round =>
                    clear m0 m1 m2 X3 PZ
                    obtain ⟨j, rfl, hj, hfr, A⟩ := hrel
                    have PZ := hide A
                    have HFR := hide hfr
                    have X3 := hide ((unhide BI).below A.bel (unhide BI).lt)
                    obtain ⟨⟨m0, m1, m2⟩, _⟩ := box_cells (unhide X3)
                    have px := unhide PXH wr A.bel
                    by_cases hjn : j < n
                    · have hjn' : (j : Int) < (n : Int) := by omega
                      have hd : decide ((j : Int) < (n : Int)) = true := decide_eq_true hjn'
                      have tx := (unhide TT).below A.bel j hjn
                      obtain ⟨tj, htj⟩ : ∃ tj, tj = t j := ⟨_, rfl⟩
                      rw [← htj] at tx
                      have HTJ := hide htj
                      clear A hfr htj
                      by_cases hne : tj = P
                      · subst hne
                        have hjn2 : ((j : Int) == (n : Int)) = false := by simp; omega
                        obtain ⟨sb, hsb⟩ : ∃ sb, sb = sz bb := ⟨_, rfl⟩
                        have hsb8 : sb ≤ 8 := by rw [hsb]; exact (sz_pos hb3).2
                        have E8 : (8 : Int).tdiv (mm : Int) = (sb : Int) := by rw [hsb, unhide HMM]; rfl
                        obtain ⟨sk, hsk⟩ : ∃ sk, sk = sb * k := ⟨_, rfl⟩
                        have ESK : (sb : Int) * (k : Int) = (sk : Int) := by rw [hsk]; simp
                        have hk2 : k < 2 ^ bb := by rw [← unhide HMM]; omega
                        have hsk7 : sk ≤ 7 := by
                          have := low_le hb3 hk2
                          have := sz_pos hb3
                          rw [hsk, hsb, Nat.mul_comm]
                          omega
                        obtain ⟨V, hV⟩ : ∃ V, V = j * 2 ^ sk := ⟨_, rfl⟩
                        have EV : (j : Int) * (2 : Int) ^ sk = (V : Int) := by rw [hV]; simp
                        have hV256 : V < 256 := by
                          rw [hV, hsk, hsb]
                          exact fit_tm (f := fun _ => j) (W := W) (x := 0) (n := n) hb3 hk2 (by rw [unhide HBB]; exact num_fits t2 hjn)
                        have hmmI : ¬ (mm : Int) = 0 := by omega
                        have HV := hide (And.intro hsb (And.intro hsk hV))
                        clear hsb hsk hV
                        go_wp2_with fail
                        go_quiet (fail)
                        go_wp2_with fail
                        obtain ⟨hsb, hsk, hV⟩ := unhide HV
                        have hj2 : NN = j := by
                          rw [← unhide HFR, show n - j = (n - j - 1) + 1 by omega]
                          exact fr_hit (unhide HTJ).symm
                        have hFk : F k = j := by
                          rw [unhide HF]
                          show nm t n (z (yw + (xm + k))) = j
                          rw [← unhide HP, ← unhide HNN]
                          exact hj2
                        go_roundw
                        case rel =>
                          refine ⟨k, GG + V, _, rfl, by omega, by go_num, by omega, by omega, ?_, fun k' e1 e2 e3 => ?_, pga_keep (unhide PZ) (drewN_below _ _)⟩
                          · rw [← unhide HS, gs_succ, tm, if_pos hw, hFk, ← hsb, ← hsk, ← hV]
                            omega
                          · by_cases ek : k' = k
                            · subst ek; rw [hFk]; exact hjn
                            · exact unhide HC k' (by omega) e2 e3
                        case measure => (simp [intOf] <;> omega)
                      · have hne' : ¬ (tj : Int) = (P : Int) := by omega
                        go_wp2_with fail
                        go_quiet (fail)
                        go_wp2_with fail
                        go_roundw
                        case rel =>
                          refine ⟨j + 1, by go_num, by omega, ?_, pga_keep (unhide PZ) (drewN_below _ _)⟩
                          rw [← unhide HFR, show n - j = (n - (j + 1)) + 1 by omega]
                          exact (fr_go (by rw [← unhide HTJ]; exact hne)).symm
                        case measure => simp [intOf]; omega
                    · have hjn3 : n = j := by omega
                      subst hjn3
                      have hd : decide ((n : Int) < (n : Int)) = false := by simp
                      have R3 := hide ((unhide BR).below A.bel (unhide BR).lt)
                      obtain ⟨⟨r0, r1, r2⟩, g0, g1, g2⟩ := box_cells (unhide R3)
                      have AB := hide A.bel
                      clear A hfr px
                      go_wp2_with fail
                      go_quiet (fail)
                      go_wp2
                      have B3 := box3 (x := .int .i64 0) (y := .int .i64 0) (s := .slice none 0 0) ((unhide R3).below (drewN_below _ nq) (unhide R3).lt)
                      refine bodyPost_ret (results_row_tmp rfl _ _ (w.heap.size + 1) 24 #[.int .i64 0, .int .i64 0, .slice none 0 0] (0, 0) _ rfl B3 Try.underlying24 rfl (by kernel_rfl)) rfl ?_
                      unfold RPakV
                      rw [if_neg]
                      · exact ⟨rfl, below3 (bel_into (unhide B1) (bel_into (unhide AB) (drewN_below _ nq))) (by omega)⟩
                      · intro h
                        have h3 := h ix i1
                        rw [unhide HIX, ← unhide HP, ← unhide HNN, ← unhide HFR, Nat.sub_self] at h3
                        exact Nat.lt_irrefl _ h3
                · have hw' : ¬ (xm : Int) + (k : Int) < (W : Int) := by omega
                  go_wp2_with fail
                  go_roundw
                  case rel =>
                    refine ⟨k, GG, _, rfl, by omega, rfl, by omega, by omega, ?_, fun k' e1 e2 e3 => ?_, unhide PZ⟩
                    · rw [← unhide HS, gs_succ, tm, if_neg hw, Nat.add_zero]
                    · by_cases ek : k' = k
                      · subst ek; exact absurd e3 hw
                      · exact unhide HC k' (by omega) e2 e3
                  case measure => (simp [intOf] <;> omega)
          · have hxw : wd = x := by omega
            subst hxw
            go_wp2_with fail
            go_roundw
            case rel =>
              refine ⟨y + 1, v1, by go_num, by omega, fun i hi => ?_, by rw [Nat.succ_mul]; exact unhide PQ⟩
              by_cases hiy : i < y * W
              · exact unhide HA i hiy
              · have e0 := unhide HYW
                rw [Nat.succ_mul] at hi
                have hX : i - yw < W := by omega
                have h5 : i - yw < wd * mm := by
                  rw [unhide HWD, unhide HMM]
                  exact (Nat.div_lt_iff_lt_mul (Nat.two_pow_pos bb)).1 (in_bl bb hX)
                have h6 := unhide HB (i - yw) h5 hX
                rw [show yw + (i - yw) = i by omega] at h6
                exact h6
            case measure => simp [intOf]; omega
      · have hyH : H = y := by omega
        subst hyH
        have hwh : 0 < wd * H := Nat.mul_pos wd0 h2
        have PG2 : Pga w2 wd H ZF (wd * H) v wr := by rw [Nat.mul_comm]; exact unhide PG
        obtain ⟨g, cz, rfl, pw, hg1, hg2⟩ := own_pow PG2.own hwh
        have R2 := hide ((unhide BR).below PG2.bel (unhide BR).lt)
        obtain ⟨⟨r0, r1, r2⟩, k0, k1, k2⟩ := box_cells (unhide R2)
        have hgr := (unhide R2).lt
        have PW := hide pw
        have BB := hide (bel_into (unhide B1) PG2.bel)
        have IN := hide (show ∀ i, i < m → nm t n (z i) < n from fun i hi => unhide HA i (by rw [(unhide II).hn] at hi; rw [Nat.mul_comm]; exact hi))
        obtain ⟨⟨d0, d1, d2⟩, f0, f1, f2⟩ := box_cells PG2.box
        clear PG2 pw PG
        have NG : g ≠ w.heap.size + 1 := by omega
        go_wp2
        have B3 := box3 (x := .int .i64 wd) (y := .int .i64 H) (s := .slice (some ⟨g, 0, none⟩) (wd * H) cz) (unhide R2)
        refine bodyPost_ret (results_row_tmp rfl _ _ (w.heap.size + 1) 24 #[.int .i64 wd, .int .i64 H, .slice (some ⟨g, 0, none⟩) (wd * H) cz] (0, 0) _ rfl B3 Try.underlying24 rfl (by kernel_rfl)) rfl ?_
        have hbb := unhide HBB
        subst hbb
        have hwd := unhide HWD
        subst hwd
        have hzf := unhide HZF
        subst hzf
        unfold RPakV
        rw [if_pos (unhide IN)]
        exact ⟨g, cz, rfl, (((unhide PW).other (p := ⟨w.heap.size + 1, 0, none⟩) NG _).other (p := ⟨w.heap.size + 1, 1, none⟩) NG _).other (p := ⟨w.heap.size + 1, 2, none⟩) NG _, by omega, below3 (unhide BB) (by omega)⟩
end Go.Proofs.Ytflmlbdcjjldgaa.TRpk
