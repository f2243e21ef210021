/- Contract: table.Unpack. Conditions: the pixels are at most 60000. -/
import Derived.Test.YtflmlbdcjjldgaaTPak
namespace Go.Proofs.Ytflmlbdcjjldgaa.TUnp
set_option linter.unusedVariables false
open Go.ChangeShapes Go.WideShapes Go.ChangeAt Go.RowKit Go.Maps Go.Sort Go.Proofs.Ytflmlbdcjjldgaa.Core Go.Proofs.Ytflmlbdcjjldgaa.LBlk Go.Proofs.Ytflmlbdcjjldgaa.PNum Go.Proofs.Ytflmlbdcjjldgaa.PPrt Go.Proofs.Ytflmlbdcjjldgaa.PGoo Go.Proofs.Ytflmlbdcjjldgaa.Ims Go.Proofs.Ytflmlbdcjjldgaa.TNum Go.Proofs.Ytflmlbdcjjldgaa.TLea Go.Proofs.Ytflmlbdcjjldgaa.TMap Go.Proofs.Ytflmlbdcjjldgaa.TPkn Go.Proofs.Ytflmlbdcjjldgaa.TPak

theorem unpack19_img {W H x : Int} (a a' : Option Addr) (n c m c' : Nat) (w : World) (hg : gdV W H n = false) :
    Calls Try.prog 19 #[.agg #[.int .i64 W, .int .i64 H, .slice a n c], .slice a' m c', .int .i64 x] w fun e w' => NoV w e w' := by
  have G := hide (fun w1 => good24 W H a n c w1)
  rw [hg] at G
  have BX := hide (two_boxes w #[.int .i64 W, .int .i64 H, .slice a n c] #[.int .i64 0, .int .i64 0, .slice none 0 0] 24 24)
  have BL := hide (bel_a2 w (.cells #[.int .i64 W, .int .i64 H, .slice a n c] 24) (.cells #[.int .i64 0, .int .i64 0, .slice none 0 0] 24))
  go_enter Try.func19, Try.ntmps19
  go_wp2_with fail
  refine (unhide G _).mono ?_
  rintro e w1 ⟨rfl, b1⟩
  have B1 := hide (below_two (unhide BL) b1)
  have BY := hide ((unhide BX).2.below b1 (unhide BX).2.lt)
  obtain ⟨⟨d0, d1, d2⟩, e0, e1, e2⟩ := box_cells (unhide BY)
  clear b1
  go_wp2
  have B3 := box3 (x := .int .i64 0) (y := .int .i64 0) (s := .slice none 0 0) (unhide BY)
  exact bodyPost_ret (results_row_tmp rfl _ _ (w.heap.size + 1) 24 #[.int .i64 0, .int .i64 0, .slice none 0 0] (0, 0) _ rfl B3 Try.underlying24 rfl (by kernel_rfl)) rfl ⟨rfl, below3 (unhide B1) (by omega)⟩
theorem unpack19_tab {W H x : Int} (a a' : Option Addr) (n c m c' : Nat) (w : World) (hg : gdV W H n = true) (ht : tbV m = false) :
    Calls Try.prog 19 #[.agg #[.int .i64 W, .int .i64 H, .slice a n c], .slice a' m c', .int .i64 x] w fun e w' => NoV w e w' := by
  have G := hide (fun w1 => good24 W H a n c w1)
  rw [hg] at G
  have T := hide (fun w1 => maybe30 a' m c' w1)
  rw [ht] at T
  have BX := hide (two_boxes w #[.int .i64 W, .int .i64 H, .slice a n c] #[.int .i64 0, .int .i64 0, .slice none 0 0] 24 24)
  have BL := hide (bel_a2 w (.cells #[.int .i64 W, .int .i64 H, .slice a n c] 24) (.cells #[.int .i64 0, .int .i64 0, .slice none 0 0] 24))
  go_enter Try.func19, Try.ntmps19
  go_wp2_with fail
  refine (unhide G _).mono ?_
  rintro e w1 ⟨rfl, b1⟩
  have B1 := hide (below_two (unhide BL) b1)
  have BY := hide ((unhide BX).2.below b1 (unhide BX).2.lt)
  obtain ⟨⟨d0, d1, d2⟩, e0, e1, e2⟩ := box_cells (unhide BY)
  clear b1
  go_wp2_with fail
  refine (unhide T _).mono ?_
  rintro e w2 ⟨rfl, rfl⟩
  go_wp2
  have B3 := box3 (x := .int .i64 0) (y := .int .i64 0) (s := .slice none 0 0) (unhide BY)
  exact bodyPost_ret (results_row_tmp rfl _ _ (w.heap.size + 1) 24 #[.int .i64 0, .int .i64 0, .slice none 0 0] (0, 0) _ rfl B3 Try.underlying24 rfl (by kernel_rfl)) rfl ⟨rfl, below3 (unhide B1) (by omega)⟩
theorem unpack19_wide {W H x : Int} (a a' : Option Addr) (n c m c' : Nat) (w : World) (hg : gdV W H n = true) (ht : tbV m = true) (hx : x < 1 ∨ 16384 < x) :
    Calls Try.prog 19 #[.agg #[.int .i64 W, .int .i64 H, .slice a n c], .slice a' m c', .int .i64 x] w fun e w' => NoV w e w' := by
  have G := hide (fun w1 => good24 W H a n c w1)
  rw [hg] at G
  have T := hide (fun w1 => maybe30 a' m c' w1)
  rw [ht] at T
  have BX := hide (two_boxes w #[.int .i64 W, .int .i64 H, .slice a n c] #[.int .i64 0, .int .i64 0, .slice none 0 0] 24 24)
  have BL := hide (bel_a2 w (.cells #[.int .i64 W, .int .i64 H, .slice a n c] 24) (.cells #[.int .i64 0, .int .i64 0, .slice none 0 0] 24))
  go_enter Try.func19, Try.ntmps19
  go_wp2_with fail
  refine (unhide G _).mono ?_
  rintro e w1 ⟨rfl, b1⟩
  have B1 := hide (below_two (unhide BL) b1)
  have BY := hide ((unhide BX).2.below b1 (unhide BX).2.lt)
  obtain ⟨⟨d0, d1, d2⟩, e0, e1, e2⟩ := box_cells (unhide BY)
  clear b1
  go_wp2_with fail
  refine (unhide T _).mono ?_
  rintro e w2 ⟨rfl, rfl⟩
  rcases hx with hx | hx
  · have hx2 : ¬ (1 : Int) ≤ x := by omega
    go_wp2
    have B3 := box3 (x := .int .i64 0) (y := .int .i64 0) (s := .slice none 0 0) (unhide BY)
    exact bodyPost_ret (results_row_tmp rfl _ _ (w.heap.size + 1) 24 #[.int .i64 0, .int .i64 0, .slice none 0 0] (0, 0) _ rfl B3 Try.underlying24 rfl (by kernel_rfl)) rfl ⟨rfl, below3 (unhide B1) (by omega)⟩
  · have hx2 : (1 : Int) ≤ x := by omega
    go_wp2
    have B3 := box3 (x := .int .i64 0) (y := .int .i64 0) (s := .slice none 0 0) (unhide BY)
    exact bodyPost_ret (results_row_tmp rfl _ _ (w.heap.size + 1) 24 #[.int .i64 0, .int .i64 0, .slice none 0 0] (0, 0) _ rfl B3 Try.underlying24 rfl (by kernel_rfl)) rfl ⟨rfl, below3 (unhide B1) (by omega)⟩
theorem unpack19_cols {W H : Int} {x : Nat} (a a' : Option Addr) (n c m c' : Nat) (w : World) (hg : gdV W H n = true) (ht : tbV m = true) (h1 : 1 ≤ x) (h2 : x ≤ 16384) (hx : W ≠ (bl x (bv m) : Nat)) :
    Calls Try.prog 19 #[.agg #[.int .i64 W, .int .i64 H, .slice a n c], .slice a' m c', .int .i64 x] w fun e w' => NoV w e w' := by
  have G := hide (fun w1 => good24 W H a n c w1)
  rw [hg] at G
  have T := hide (fun w1 => maybe30 a' m c' w1)
  rw [ht] at T
  have TG := hide (fun w1 => together32 x m a' c' w1 h2)
  generalize bl x (bv m) = y at *
  have h1' : ¬ (x : Int) < 1 := by omega
  have h2' : ¬ (16384 : Int) < (x : Int) := by omega
  have BX := hide (two_boxes w #[.int .i64 W, .int .i64 H, .slice a n c] #[.int .i64 0, .int .i64 0, .slice none 0 0] 24 24)
  have BL := hide (bel_a2 w (.cells #[.int .i64 W, .int .i64 H, .slice a n c] 24) (.cells #[.int .i64 0, .int .i64 0, .slice none 0 0] 24))
  go_enter Try.func19, Try.ntmps19
  go_wp2_with fail
  refine (unhide G _).mono ?_
  rintro e w1 ⟨rfl, b1⟩
  have B1 := hide (below_two (unhide BL) b1)
  have BY := hide ((unhide BX).2.below b1 (unhide BX).2.lt)
  obtain ⟨⟨d0, d1, d2⟩, e0, e1, e2⟩ := box_cells (unhide BY)
  have BZ := hide ((unhide BX).1.below b1 (unhide BX).1.lt)
  clear b1
  clear d0 d1 d2 e0 e1 e2
  go_wp2_with fail
  refine (unhide T _).mono ?_
  rintro e w2 ⟨rfl, hw2⟩
  subst hw2
  obtain ⟨⟨c0, c1, c2⟩, _⟩ := box_cells (unhide BZ)
  go_wp2_with fail
  refine (unhide TG _).mono ?_
  rintro e w3 ⟨rfl, b3⟩
  have b4 := b3.trans ((Below.refl w2.heap.size w3).alloc b3.size (.cells #[.int .i64 (bv m), .int .i64 y] 56))
  have hT4 : (w3.alloc (.cells #[.int .i64 (bv m), .int .i64 y] 56)).cell? ⟨w3.heap.size, 1, none⟩ = some (.int .i64 y) := ((Box.made w3 56 #[.int .i64 (bv m), .int .i64 y]).cell 1).trans rfl
  have B4 := hide (below_two (unhide B1) b4)
  have BY4 := hide ((unhide BY).below b4 (unhide BY).lt)
  have BZ4 := hide ((unhide BZ).below b4 (unhide BZ).lt)
  obtain ⟨⟨c0, c1, c2⟩, _⟩ := box_cells (unhide BZ4)
  obtain ⟨⟨d0, d1, d2⟩, e0, e1, e2⟩ := box_cells (unhide BY4)
  have hxb : (W != (y : Int)) = true := by simp [hx]
  clear b3 b4 B1 BY BZ
  go_wp2
  have B3 := box3 (x := .int .i64 0) (y := .int .i64 0) (s := .slice none 0 0) (unhide BY4)
  exact bodyPost_ret (results_row_tmp rfl _ _ (w.heap.size + 1) 24 #[.int .i64 0, .int .i64 0, .slice none 0 0] (0, 0) _ rfl B3 Try.underlying24 rfl (by kernel_rfl)) rfl ⟨rfl, below3 (unhide B4) (by omega)⟩
/-- The pixel i of the whole one. -/
def uv (t : Nat → Nat) (n : Nat) (z : Nat → Nat) (W b x i : Nat) : Nat :=
  if pt (z (i / x * W + i % x / 2 ^ b)) 2 / 2 ^ (i % x % 2 ^ b * sz b) % 2 ^ sz b < n then t (pt (z (i / x * W + i % x / 2 ^ b)) 2 / 2 ^ (i % x % 2 ^ b * sz b) % 2 ^ sz b) else 0
def UnpV (w : World) (x H : Nat) (f : Nat → Nat) (e : Ending) (w' : World) : Prop :=
  ∃ g, e = .returned (.tuple #[.agg #[.int .i64 x, .int .i64 H, .slice (some ⟨g, 0, none⟩) (x * H) (x * H)], .int .i64 0]) ∧ Gives w (x * H) g f w'
theorem wide_le {W x b : Nat} (hb : b ≤ 3) (e : W = bl x b) : x ≤ 8 * W := by
  rw [e]
  unfold bl
  rcases four_b hb with rfl | rfl | rfl | rfl <;> simp <;> omega
set_option maxRecDepth 20000 in
set_option maxHeartbeats 6400000 in
theorem unpack19 {W H x b off m tb tq n : Nat} {z t : Nat → Nat} (c c' : Nat) {w : World} (I : Img w W H b off m z) (h1 : 1 ≤ W) (h2 : 1 ≤ H) (hm : m ≤ 60000)
    (T : Pixs w tb tq n t) (t1 : 1 ≤ n) (t2 : n ≤ 256) (x1 : 1 ≤ x) (x2 : x ≤ 16384) (hx : W = bl x (bv n)) :
    Calls Try.prog 19 #[.agg #[.int .i64 W, .int .i64 H, .slice (some ⟨b, off, none⟩) m c], .slice (some ⟨tb, tq, none⟩) n c', .int .i64 x] w fun e w' => UnpV w x H (uv t n z W (bv n) x) e w' := by
  have m0 : 0 < m := by rw [I.hn]; exact Nat.mul_pos h1 h2
  have G := hide (fun w1 => good24 (W : Int) (H : Int) (some ⟨b, off, none⟩) m c w1)
  rw [gd_mk h1 I.hW h2 I.hH I.hn] at G
  have MB := hide (fun w1 => maybe30 (some ⟨tb, tq, none⟩) n c' w1)
  rw [tbV_yes t1 t2] at MB
  have TG := hide (fun w1 => together32 x n (some ⟨tb, tq, none⟩) c' w1 x2)
  rw [← hx] at TG
  obtain ⟨bb, hbb⟩ : ∃ bb, bb = bv n := ⟨_, rfl⟩
  have hb3 : bb ≤ 3 := by rw [hbb]; exact bv_le _
  rw [← hbb] at TG hx ⊢
  have wl := wide_le hb3 hx
  have xh : x * H ≤ 480000 := by
    have := Nat.mul_le_mul_right H wl
    have e := I.hn
    rw [Nat.mul_assoc, ← e] at this
    omega
  have IM := hide (fun w1 => image33 x H (x * H) 0 w1 rfl x2 I.hH (Nat.mul_pos x1 h2) (by omega))
  rw [show ((0 : Nat) : Int) = 0 from rfl] at IM
  have BX := hide (two_boxes w #[.int .i64 W, .int .i64 H, .slice (some ⟨b, off, none⟩) m c] #[.int .i64 0, .int .i64 0, .slice none 0 0] 24 24)
  have BL := hide (bel_a2 w (.cells #[.int .i64 W, .int .i64 H, .slice (some ⟨b, off, none⟩) m c] 24) (.cells #[.int .i64 0, .int .i64 0, .slice none 0 0] 24))
  have II := hide I
  have PT := hide T
  have HX := hide hx
  have hbI : (bb : Int) ≤ 3 := by omega
  have h1' : ¬ (x : Int) < 1 := by omega
  have h2' : ¬ (16384 : Int) < (x : Int) := by omega
  have hWW : ((W : Int) != (W : Int)) = false := by simp
  clear I T hx hbb
  go_enter Try.func19, Try.ntmps19
  go_wp2_with fail
  refine (unhide G _).mono ?_
  rintro e w1 ⟨rfl, b1⟩
  have B1 := hide (below_two (unhide BL) b1)
  have BY := hide ((unhide BX).2.below b1 (unhide BX).2.lt)
  have BZ := hide ((unhide BX).1.below b1 (unhide BX).1.lt)
  clear b1 G BX BL
  go_wp2_with fail
  refine (unhide MB _).mono ?_
  rintro e w2 ⟨rfl, hw2⟩
  subst hw2
  clear MB
  go_wp2_with fail
  refine (unhide TG _).mono ?_
  rintro e w3 ⟨rfl, b3⟩
  have b4 := b3.trans ((Below.refl w2.heap.size w3).alloc b3.size (.cells #[.int .i64 bb, .int .i64 W] 56))
  have T4 := hide (Box.made w3 56 #[.int .i64 bb, .int .i64 W])
  have B4 := hide (below_two (unhide B1) b4)
  have BY4 := hide ((unhide BY).below b4 (unhide BY).lt)
  have BZ4 := hide ((unhide BZ).below b4 (unhide BZ).lt)
  have hT4 : (w3.alloc (.cells #[.int .i64 bb, .int .i64 W] 56)).cell? ⟨w3.heap.size, 1, none⟩ = some (.int .i64 W) := ((unhide T4).cell 1).trans rfl
  obtain ⟨⟨g0, g1, g2⟩, _⟩ := box_cells (unhide BZ4)
  have hlt3 : w.heap.size + 2 ≤ w3.heap.size := by have h1 := (unhide BY).lt; have h2 := b3.size; omega
  clear b3 b4 B1 BY BZ
  go_wp2_with fail
  refine (unhide IM _).mono ?_
  rintro e w5 ⟨g, rfl, gv⟩
  have hsz4 : (w3.alloc (.cells #[.int .i64 bb, .int .i64 W] 56)).heap.size = w3.heap.size + 1 := by simp
  have hg : w3.heap.size < g := by have := gv.new; rw [hsz4] at this; omega
  have hl5 : g < w5.heap.size := lt_of_cell (gv.row 0 (Nat.mul_pos x1 h2)).1
  have bS := gv.bel.trans (((Below.refl w5.heap.size w5).alloc (Nat.le_refl _) (.cells #[.int .i64 x, .int .i64 H, .slice (some ⟨g, 0, none⟩) (x * H) (x * H)] 24)).mono gv.bel.size)
  have SL := hide (Box.made w5 24 #[.int .i64 x, .int .i64 H, .slice (some ⟨g, 0, none⟩) (x * H) (x * H)])
  have SB := hide (below_two (unhide B4) bS)
  have SR := hide ((unhide BY4).below bS (unhide BY4).lt)
  have SI := hide ((unhide BZ4).below bS (unhide BZ4).lt)
  have ST := hide ((unhide T4).below bS (unhide T4).lt)
  have SP := hide (gv.row.below ((Below.refl w5.heap.size w5).alloc (Nat.le_refl _) (.cells #[.int .i64 x, .int .i64 H, .slice (some ⟨g, 0, none⟩) (x * H) (x * H)] 24)))
  have sl2 : (w5.alloc (.cells #[.int .i64 x, .int .i64 H, .slice (some ⟨g, 0, none⟩) (x * H) (x * H)] 24)).cell? ⟨w5.heap.size, 2, none⟩ = some (.slice (some ⟨g, 0, none⟩) (x * H) (x * H)) := ((unhide SL).cell 2).trans rfl
  have HN := hide (And.intro hlt3 (And.intro hg hl5))
  clear gv bS B4 BY4 BZ4 T4 hT4 g0 g1 g2 hsz4 hlt3 hg hl5
  obtain ⟨l0, hl0⟩ : ∃ l0, l0 = w5.heap.size := ⟨_, rfl⟩
  go_wp2
  rw [← hl0] at SL HN ⊢
  clear sl2
  generalize w5.alloc (.cells #[.int .i64 x, .int .i64 H, .slice (some ⟨g, 0, none⟩) (x * H) (x * H)] 24) = wS at *
  generalize w3.heap.size = t0 at *
  clear hl0
  go_loopw [47] (fun v wr => ∃ i : Nat, v = .int .i64 i ∧ i ≤ x * H ∧ Upd (fun k => k = g) wS wr ∧ Pow wr g (x * H) (fun j => if j < i then uv t n z W bb x j else 0)) (fun v _ => x * H - (intOf v).toNat)
  case atStart => exact ⟨0, rfl, Nat.zero_le _, Upd.refl _ _, (unhide SP).congr fun j _ => (if_neg (by omega)).symm⟩
  case round =>
    obtain ⟨i, rfl, hi, hu, hp⟩ := hrel
    obtain ⟨n1, n3, n4⟩ := unhide HN
    obtain ⟨⟨i0, i1, i2⟩, _⟩ := box_cells (unhide SI)
    have hbl : b < w.heap.size := (unhide II).px.lt m0
    have htl : tb < w.heap.size := (unhide PT).lt (by omega)
    have ci2 : wr.cell? ⟨w.heap.size, 2, none⟩ = some (.slice (some ⟨b, off, none⟩) m c) := upd_c hu (i2) (by omega)
    have ct0 : wr.cell? ⟨t0, 0, none⟩ = some (.int .i64 bb) := upd_c hu (((unhide ST).cell 0).trans rfl) (by omega)
    have ct1 : wr.cell? ⟨t0, 1, none⟩ = some (.int .i64 W) := upd_c hu (((unhide ST).cell 1).trans rfl) (by omega)
    have cl2 : wr.cell? ⟨l0, 2, none⟩ = some (.slice (some ⟨g, 0, none⟩) (x * H) (x * H)) := upd_c hu (((unhide SL).cell 2).trans rfl) (by omega)
    have HU := hide hu
    have HP := hide hp
    by_cases hlt : i < x * H
    · have hlt' : (i : Int) < ((x * H : Nat) : Int) := by omega
      obtain ⟨y, X, hX, hy, hyx⟩ := row_of (W := x) (H := H) (i := i) x1 hlt
      have X16 : X ≤ 16384 := by omega
      have y16 : y ≤ 16384 := by have := (unhide II).hH; omega
      have w16 : W ≤ 16384 := (unhide II).hW
      have hx0 : (0 : Int) < (x : Int) := by omega
      have ex := (at_div (y := y) hX).2
      have ey := (at_div (y := y) hX).1
      rw [hyx] at ex ey
      have rx1 : (i : Int).tmod (x : Int) = (X : Int) := by rw [tmod_nat, ex]
      have rx2 : (i : Int) % (x : Int) = (X : Int) := by rw [← ex]; rfl
      have ry1 : (i : Int).tdiv (x : Int) = (y : Int) := by rw [tdiv_nat, ey]
      have ry2 : (i : Int) / (x : Int) = (y : Int) := by rw [← ey]; rfl
      have at1 : y * W + X / 2 ^ bb < m := by
        have l1 := in_bl bb hX
        rw [← unhide HX] at l1
        rw [(unhide II).hn]
        exact place_lt l1 hy
      have lw7 : X % 2 ^ bb * sz bb ≤ 7 := by
        have := low_le hb3 (Nat.mod_lt X (Nat.two_pow_pos bb))
        have := sz_pos hb3
        omega
      have PL := hide (fun w1 => place34 bb X y W w1 hb3 X16 y16 w16)
      have UV := hide (show uv t n z W bb x i = if pt (z (y * W + X / 2 ^ bb)) 2 / 2 ^ (X % 2 ^ bb * sz bb) % 2 ^ sz bb < n then t (pt (z (y * W + X / 2 ^ bb)) 2 / 2 ^ (X % 2 ^ bb * sz bb) % 2 ^ sz bb) else 0 by unfold uv; rw [ex, ey])
      have p1 : wr.cell? ⟨b, off + (y * W + X / 2 ^ bb), none⟩ = some (.int .u32 (z (y * W + X / 2 ^ bb))) := upd_c hu ((unhide II).px.below (unhide SB) _ at1) (by omega)
      have q1 : ∀ dd os, Calls Try.prog 34 #[.agg #[.int .i64 bb, .int .i64 W], .int .i64 X, .int .i64 y] (grow (redrawn wr dd) os) fun e w'' => e = .returned (.tuple #[.int .i64 (y * W + X / 2 ^ bb : Nat), .int .i64 (X % 2 ^ bb * sz bb : Nat)]) ∧ ∃ p : Regrown, w'' = grow (redrawn wr p.d) p.os := fun dd os => Calls.regrown_of (unhide PL _)
      generalize y * W + X / 2 ^ bb = at0 at *
      generalize X % 2 ^ bb * sz bb = low at *
      have k1 := cell_regrown ct0
      have k2 := cell_regrown ct1
      have k3 := cell_regrown ci2
      have Q1 := hide q1
      clear hu hp i0 i1 i2 q1 PL ex ey
      go_upto_region 10 with fail
      refine wp_region_quiet_below (by kernel_rfl) (by kernel_rfl) ?_
      repeat (go_big_quiet_step (first | (go_at_call 34; with_reducible exact unhide Q1 _ _)))
      refine wpQuiet_nil ?_
      intro _ hw'
      obtain ⟨⟨dq, osq⟩, hw''⟩ := hw'
      subst hw''
      have bq := below_regrown wr dq osq
      have UQ := hide ((unhide HU).trans (Upd.ofBelow bq))
      have PQ := hide ((unhide HP).below bq)
      have cl2 := cell_regrown cl2 dq osq
      have ct0 := cell_regrown ct0 dq osq
      have ct1 := cell_regrown ct1 dq osq
      have ci2 := cell_regrown ci2 dq osq
      have p1 := cell_regrown p1 dq osq
      generalize grow (redrawn wr dq) osq = wq at *
      clear k1 k2 k3 Q1 bq HU HP
      have NB := hide (fun w1 => number37 bb (z at0) low W w1 hb3 lw7)
      have q2 : ∀ dd os, Calls Try.prog 37 #[.agg #[.int .i64 bb, .int .i64 W], .int .u32 (z at0), .int .i64 low] (grow (redrawn wq dd) os) fun e w'' => e = .returned (.int .i64 (pt (z at0) 2 / 2 ^ low % 2 ^ sz bb : Nat)) ∧ ∃ p : Regrown, w'' = grow (redrawn wq p.d) p.os := fun dd os => Calls.regrown_of (unhide NB _)
      generalize pt (z at0) 2 / 2 ^ low % 2 ^ sz bb = v at *
      have k1 := cell_regrown ct0
      have k2 := cell_regrown ct1
      have k3 := cell_regrown ci2
      have k4 := cell_regrown p1
      have Q2 := hide q2
      clear q2 NB
      go_upto_region 11 with fail
      refine wp_region_quiet_below (by kernel_rfl) (by kernel_rfl) ?_
      repeat (go_big_quiet_step (first | (go_at_call 37; with_reducible exact unhide Q2 _ _)))
      refine wpQuiet_nil ?_
      intro _ hw'
      obtain ⟨⟨dq, osq⟩, hw''⟩ := hw'
      subst hw''
      have bq := below_regrown wq dq osq
      have UR := hide ((unhide UQ).trans (Upd.ofBelow bq))
      have PR := hide ((unhide PQ).below bq)
      have cl2 := cell_regrown cl2 dq osq
      generalize grow (redrawn wq dq) osq = ws at *
      clear ci2 ct0 ct1 p1 k1 k2 k3 k4 Q2 bq UQ PQ
      have r1 : ws.cell? ⟨g, i, none⟩ = some (.int .u32 ((if i < i then uv t n z W bb x i else 0 : Nat) : Int)) := ((unhide PR) i hlt).1
      have r2 : ws.frozen? ⟨g, i, none⟩ = false := ((unhide PR) i hlt).2
      rw [if_neg (by omega)] at r1
      by_cases hv : v < n
      · have hv' : (v : Int) < (n : Int) := by omega
        have tc : ws.cell? ⟨tb, tq + v, none⟩ = some (.int .u32 (t v)) := upd_c (unhide UR) ((unhide PT).below (unhide SB) v hv) (by omega)
        have UW := hide ((unhide UV).trans (if_pos hv))
        generalize t v = tv at *
        go_wp2_with fail
        go_region
        all_goals go_wp2
        all_goals
          go_roundw
          case rel =>
            refine ⟨i + 1, by go_num, by omega, Upd.setCell (S := fun k => k = g) ((unhide UR).drewN 1) (p := ⟨g, i, none⟩) rfl _, ?_⟩
            refine Pow.congr (Pow.set (show Pow (ws.drewN 1) g (x * H) (fun j => if j < i then uv t n z W bb x j else 0) from unhide PR) i tv) fun j hj => ?_
            by_cases e : j = i
            · subst e; rw [if_pos rfl, if_pos (by omega)]; exact (unhide UW).symm
            · rw [if_neg e]
              by_cases e2 : j < i
              · rw [if_pos e2, if_pos (by omega)]
              · rw [if_neg e2, if_neg (by omega)]
          case measure => simp [intOf]; omega
      · have hv' : ¬ (v : Int) < (n : Int) := by omega
        have UW := hide ((unhide UV).trans (if_neg hv))
        go_wp2
        go_roundw
        case rel =>
          refine ⟨i + 1, by go_num, by omega, unhide UR, (unhide PR).congr fun j hj => ?_⟩
          by_cases e : j = i
          · subst e; rw [if_neg (by omega), if_pos (by omega)]; exact (unhide UW).symm
          · by_cases e2 : j < i
            · rw [if_pos e2, if_pos (by omega)]
            · rw [if_neg e2, if_neg (by omega)]
        case measure => simp [intOf]; omega
    · obtain hie : i = x * H := by omega
      subst hie
      obtain ⟨⟨s0, s1, s2⟩, f0, f1, f2⟩ := box_cells ((unhide SR).keep (unhide HU) (by show ¬ _ = _; omega))
      have BR := hide ((unhide SR).keep (unhide HU) (by show ¬ _ = _; omega))
      have cl0 : wr.cell? ⟨l0, 0, none⟩ = some (.int .i64 x) := upd_c hu (((unhide SL).cell 0).trans rfl) (by omega)
      have cl1 : wr.cell? ⟨l0, 1, none⟩ = some (.int .i64 H) := upd_c hu (((unhide SL).cell 1).trans rfl) (by omega)
      clear hu hp i0 i1 i2
      go_wp2
      have B3 := box3 (x := .int .i64 x) (y := .int .i64 H) (s := .slice (some ⟨g, 0, none⟩) (x * H) (x * H)) (unhide BR)
      refine bodyPost_ret (results_row_tmp rfl _ _ (w.heap.size + 1) 24 #[.int .i64 x, .int .i64 H, .slice (some ⟨g, 0, none⟩) (x * H) (x * H)] (0, 0) _ rfl B3 Try.underlying24 rfl (by kernel_rfl)) rfl ?_
      refine ⟨g, rfl, ((((unhide HP).other (p := ⟨w.heap.size + 1, 0, none⟩) (show g ≠ w.heap.size + 1 by omega) _).other (p := ⟨w.heap.size + 1, 1, none⟩) (show g ≠ w.heap.size + 1 by omega) _).other (p := ⟨w.heap.size + 1, 2, none⟩) (show g ≠ w.heap.size + 1 by omega) _).congr fun j hj => if_pos hj, by omega, below3 ((unhide SB).trans ((unhide HU).below w.heap.size (unhide SB).size (fun k e => by omega))) (by omega)⟩
end Go.Proofs.Ytflmlbdcjjldgaa.TUnp
