/- Contract: table.Pack. Conditions: the pixels are at most 60000. -/
import Derived.Test.YtflmlbdcjjldgaaTMap
import Derived.Test.YtflmlbdcjjldgaaTPkn
import Derived.Deep.RegionWith
namespace Go.Proofs.Ytflmlbdcjjldgaa.TPak
set_option linter.unusedVariables false
open Go.ChangeShapes Go.WideShapes Go.ChangeAt Go.RowKit Go.Maps Go.Sort Go.Proofs.Ytflmlbdcjjldgaa.Core Go.Proofs.Ytflmlbdcjjldgaa.LBlk Go.Proofs.Ytflmlbdcjjldgaa.PNum Go.Proofs.Ytflmlbdcjjldgaa.PPrt Go.Proofs.Ytflmlbdcjjldgaa.PGoo Go.Proofs.Ytflmlbdcjjldgaa.Ims Go.Proofs.Ytflmlbdcjjldgaa.TNum Go.Proofs.Ytflmlbdcjjldgaa.TLea Go.Proofs.Ytflmlbdcjjldgaa.TMap Go.Proofs.Ytflmlbdcjjldgaa.TPkn

/-- No image, and an error. -/
def NoV (w : World) (e : Ending) (w' : World) : Prop := e = .returned (.tuple #[.agg #[.int .i64 0, .int .i64 0, .slice none 0 0], .int .i64 1]) ∧ Below w.heap.size w w'
theorem pack17_img {W H : Int} (a a' : Option Addr) (n c m c' : Nat) (w : World) (hg : gdV W H n = false) :
    Calls Try.prog 17 #[.agg #[.int .i64 W, .int .i64 H, .slice a n c], .slice a' m c'] w fun e w' => NoV w e w' := by
  have G := hide (fun w1 => good24 W H a n c w1)
  rw [hg] at G
  have BX := hide (two_boxes w #[.int .i64 W, .int .i64 H, .slice a n c] #[.int .i64 0, .int .i64 0, .slice none 0 0] 24 24)
  have BL := hide (bel_a2 w (.cells #[.int .i64 W, .int .i64 H, .slice a n c] 24) (.cells #[.int .i64 0, .int .i64 0, .slice none 0 0] 24))
  go_enter Try.func17, Try.ntmps17
  go_wp2_with fail
  refine (unhide G _).mono ?_
  rintro e w1 ⟨rfl, b1⟩
  have B1 := hide (below_two (unhide BL) b1)
  have BY := hide ((unhide BX).2.below b1 (unhide BX).2.lt)
  obtain ⟨⟨d0, d1, d2⟩, e0, e1, e2⟩ := box_cells (unhide BY)
  clear b1
  go_wp2
  have B3 := box3 (x := .int .i64 0) (y := .int .i64 0) (s := .slice none 0 0) (unhide BY)
  exact bodyPost_ret (results_row_tmp rfl _ _ (w.heap.size + 1) 24 #[.int .i64 0, .int .i64 0, .slice none 0 0] (0, 0) _ rfl B3 Try.underlying24 rfl (by kernel_rfl)) rfl ⟨rfl, below3 (unhide B1) (by omega)⟩
theorem pack17_tab {W H : Int} (a a' : Option Addr) (n c m c' : Nat) (w : World) (hg : gdV W H n = true) (ht : tbV m = false) :
    Calls Try.prog 17 #[.agg #[.int .i64 W, .int .i64 H, .slice a n c], .slice a' m c'] w fun e w' => NoV w e w' := by
  have G := hide (fun w1 => good24 W H a n c w1)
  rw [hg] at G
  have T := hide (fun w1 => maybe30 a' m c' w1)
  rw [ht] at T
  have BX := hide (two_boxes w #[.int .i64 W, .int .i64 H, .slice a n c] #[.int .i64 0, .int .i64 0, .slice none 0 0] 24 24)
  have BL := hide (bel_a2 w (.cells #[.int .i64 W, .int .i64 H, .slice a n c] 24) (.cells #[.int .i64 0, .int .i64 0, .slice none 0 0] 24))
  go_enter Try.func17, Try.ntmps17
  go_wp2_with fail
  refine (unhide G _).mono ?_
  rintro e w1 ⟨rfl, b1⟩
  have B1 := hide (below_two (unhide BL) b1)
  have BY := hide ((unhide BX).2.below b1 (unhide BX).2.lt)
  obtain ⟨⟨d0, d1, d2⟩, e0, e1, e2⟩ := box_cells (unhide BY)
  clear b1
  go_wp2_with fail
  refine (unhide T _).mono ?_
  rintro e w2 ⟨rfl, rfl⟩
  go_wp2
  have B3 := box3 (x := .int .i64 0) (y := .int .i64 0) (s := .slice none 0 0) (unhide BY)
  exact bodyPost_ret (results_row_tmp rfl _ _ (w.heap.size + 1) 24 #[.int .i64 0, .int .i64 0, .slice none 0 0] (0, 0) _ rfl B3 Try.underlying24 rfl (by kernel_rfl)) rfl ⟨rfl, below3 (unhide B1) (by omega)⟩
theorem own_below {P : Program} {k : TypeId} {R : Value → Option (DataW Unit × List MemPlace)} {w w' : World} {b n : Nat} {D : DataW Unit} (h : w.ownsMap P k R b n D) (u : Below w.heap.size w w') : w'.ownsMap P k R b n D := by
  have hl := h.lt
  obtain ⟨es, clock, hb, r⟩ := h
  exact ⟨es, clock, (u.block b hl).trans hb, r⟩
theorem own_upd {P : Program} {k : TypeId} {R : Value → Option (DataW Unit × List MemPlace)} {w w' : World} {b n g : Nat} {D : DataW Unit} (h : w.ownsMap P k R b n D) (u : Upd (fun k => k = g) w w') (ne : b ≠ g) : w'.ownsMap P k R b n D := by
  have hl := h.lt
  obtain ⟨es, clock, hb, r⟩ := h
  exact ⟨es, clock, (u.block b hl ne).trans hb, r⟩
theorem upd_c {w w' : World} {g k o : Nat} {v : Value} (u : Upd (fun k => k = g) w w') (h : w.cell? ⟨k, o, none⟩ = some v) (ne : k ≠ g) : w'.cell? ⟨k, o, none⟩ = some v := (u.cell (p := ⟨k, o, none⟩) (lt_of_cell h) ne).trans h
theorem num_eq {t : Nat → Nat} {n p : Nat} {D : DataW Unit} {c : Int} (h : Nu t n 0 D) (hf : nm t n p < n) (e : D.atKey (.int .u32 (p : Int)) (.lit (.int .i64 0)) = .lit (.int .i64 c)) : c = ((nm t n p : Nat) : Int) := by
  have := h.yes p hf (.lit (.int .i64 0))
  rw [this] at e
  simp at e
  exact e.symm
theorem row_of {W H i : Nat} (h1 : 1 ≤ W) (h : i < W * H) : ∃ y x, x < W ∧ y < H ∧ y * W + x = i :=
  ⟨i / W, i % W, Nat.mod_lt _ (by omega), by rw [Nat.div_lt_iff_lt_mul (by omega), Nat.mul_comm]; exact h, by rw [Nat.mul_comm]; exact Nat.div_add_mod i W⟩
/-- What Pack answers of what may be. -/
def PakV (w : World) (W H m : Nat) (z : Nat → Nat) (n : Nat) (t : Nat → Nat) (e : Ending) (w' : World) : Prop :=
  if ∀ i, i < m → nm t n (z i) < n then ∃ g, e = .returned (.tuple #[.agg #[.int .i64 (bl W (bv n)), .int .i64 H, .slice (some ⟨g, 0, none⟩) (bl W (bv n) * H) (bl W (bv n) * H)], .int .i64 0]) ∧ Gives w (bl W (bv n) * H) g (pk t n z W (bv n) m) w'
  else NoV w e w'
set_option maxRecDepth 20000 in
set_option maxHeartbeats 3200000 in
theorem pack17 {W H b off m tb tq n : Nat} {z t : Nat → Nat} (c c' : Nat) {w : World} (I : Img w W H b off m z) (hz : ∀ i, i < m → z i < 4294967296) (h1 : 1 ≤ W) (h2 : 1 ≤ H) (hm : m ≤ 60000)
    (T : Pixs w tb tq n t) (htt : ∀ i, i < n → t i < 4294967296) (t1 : 1 ≤ n) (t2 : n ≤ 256) :
    Calls Try.prog 17 #[.agg #[.int .i64 W, .int .i64 H, .slice (some ⟨b, off, none⟩) m c], .slice (some ⟨tb, tq, none⟩) n c'] w fun e w' => PakV w W H m z n t e w' := by
  have m0 : 0 < m := by rw [I.hn]; exact Nat.mul_pos h1 h2
  have G := hide (fun w1 => good24 (W : Int) (H : Int) (some ⟨b, off, none⟩) m c w1)
  rw [gd_mk h1 I.hW h2 I.hH I.hn] at G
  have MB := hide (fun w1 => maybe30 (some ⟨tb, tq, none⟩) n c' w1)
  rw [tbV_yes t1 t2] at MB
  have NM := hide (fun w1 (h : Pixs w1 tb tq n t) => numbers31 c' h htt (by omega) (by omega))
  have TG := hide (fun w1 => together32 W n (some ⟨tb, tq, none⟩) c' w1 I.hW)
  obtain ⟨bb, hbb⟩ : ∃ bb, bb = bv n := ⟨_, rfl⟩
  have hb3 : bb ≤ 3 := by rw [hbb]; exact bv_le _
  obtain ⟨wd, hwd⟩ : ∃ wd, wd = bl W bb := ⟨_, rfl⟩
  have wd1 : wd ≤ W := by rw [hwd]; exact bl_le W bb
  have wd0 : 0 < wd := by rw [hwd]; exact bl_pos bb h1
  rw [← hbb, ← hwd] at TG
  have wh : wd * H ≤ m := by rw [I.hn]; exact Nat.mul_le_mul_right _ wd1
  have IM := hide (fun w1 => image33 wd H (wd * H) 4278190080 w1 rfl (Nat.le_trans wd1 I.hW) I.hH (Nat.mul_pos wd0 h2) (by omega))
  rw [show ((4278190080 : Nat) : Int) = 4278190080 from rfl] at IM
  have BX := hide (two_boxes w #[.int .i64 W, .int .i64 H, .slice (some ⟨b, off, none⟩) m c] #[.int .i64 0, .int .i64 0, .slice none 0 0] 24 24)
  have BL := hide (bel_a2 w (.cells #[.int .i64 W, .int .i64 H, .slice (some ⟨b, off, none⟩) m c] 24) (.cells #[.int .i64 0, .int .i64 0, .slice none 0 0] 24))
  have II := hide I
  have PT := hide T
  have HZ := hide hz
  have HBB := hide hbb
  have HWD := hide hwd
  clear I T hz htt hbb hwd
  go_enter Try.func17, Try.ntmps17
  go_wp2_with fail
  refine (unhide G _).mono ?_
  rintro e w1 ⟨rfl, b1⟩
  have B1 := hide (below_two (unhide BL) b1)
  have BY := hide ((unhide BX).2.below b1 (unhide BX).2.lt)
  have BZ := hide ((unhide BX).1.below b1 (unhide BX).1.lt)
  clear b1 G BX BL
  go_wp2_with fail
  refine (unhide MB _).mono ?_
  rintro e w2 ⟨rfl, rfl⟩
  have K := hide (unhide NM _ ((unhide PT).below (unhide B1)))
  clear NM MB
  go_wp2_with fail
  refine (unhide K).mono ?_
  rintro e w2 ⟨mg, D, rfl, hown, hnu, hmg, b2⟩
  have OW := hide hown
  have NU := hide hnu
  have MG := hide (Nat.le_trans (unhide B1).size hmg)
  have B2 := hide (below_two (unhide B1) b2)
  have BY2 := hide ((unhide BY).below b2 (unhide BY).lt)
  have BZ2 := hide ((unhide BZ).below b2 (unhide BZ).lt)
  obtain ⟨⟨c0, c1, c2⟩, _⟩ := box_cells (unhide BZ2)
  clear hown hnu hmg b2 K BY BZ B1
  go_wp2_with fail
  refine (unhide TG _).mono ?_
  rintro e w3 ⟨rfl, b3⟩
  have b4 := b3.trans ((Below.refl w2.heap.size w3).alloc b3.size (.cells #[.int .i64 bb, .int .i64 wd] 56))
  have T4 := hide (Box.made w3 56 #[.int .i64 bb, .int .i64 wd])
  have B4 := hide (below_two (unhide B2) b4)
  have OW4 := hide (own_below (unhide OW) b4)
  have BY4 := hide ((unhide BY2).below b4 (unhide BY2).lt)
  have BZ4 := hide ((unhide BZ2).below b4 (unhide BZ2).lt)
  have hT4 : (w3.alloc (.cells #[.int .i64 bb, .int .i64 wd] 56)).cell? ⟨w3.heap.size, 1, none⟩ = some (.int .i64 wd) := ((unhide T4).cell 1).trans rfl
  obtain ⟨⟨g0, g1, g2⟩, _⟩ := box_cells (unhide BZ4)
  have hlt3 : w.heap.size + 2 ≤ w3.heap.size := by have h1 := (unhide BY2).lt; have h2 := b3.size; omega
  have hmg3 : mg < w3.heap.size := by have h1 := (unhide OW).lt; have h2 := b3.size; omega
  clear b3 b4 B2 OW BY2 BZ2 c0 c1 c2
  go_wp2_with fail
  refine (unhide IM _).mono ?_
  rintro e w5 ⟨g, rfl, gv⟩
  have hsz4 : (w3.alloc (.cells #[.int .i64 bb, .int .i64 wd] 56)).heap.size = w3.heap.size + 1 := by simp
  have hg : w3.heap.size < g := by have := gv.new; rw [hsz4] at this; omega
  have hl5 : g < w5.heap.size := lt_of_cell (gv.row 0 (Nat.mul_pos wd0 h2)).1
  have bS := gv.bel.trans (((Below.refl w5.heap.size w5).alloc (Nat.le_refl _) (.cells #[.int .i64 wd, .int .i64 H, .slice (some ⟨g, 0, none⟩) (wd * H) (wd * H)] 24)).mono gv.bel.size)
  have SL := hide (Box.made w5 24 #[.int .i64 wd, .int .i64 H, .slice (some ⟨g, 0, none⟩) (wd * H) (wd * H)])
  have SB := hide (below_two (unhide B4) bS)
  have SO := hide (own_below (unhide OW4) bS)
  have SR := hide ((unhide BY4).below bS (unhide BY4).lt)
  have SI := hide ((unhide BZ4).below bS (unhide BZ4).lt)
  have ST := hide ((unhide T4).below bS (unhide T4).lt)
  have SP := hide (gv.row.below ((Below.refl w5.heap.size w5).alloc (Nat.le_refl _) (.cells #[.int .i64 wd, .int .i64 H, .slice (some ⟨g, 0, none⟩) (wd * H) (wd * H)] 24)))
  obtain ⟨⟨i0, i1, i2⟩, _⟩ := box_cells (unhide SI)
  have HN := hide (And.intro hlt3 (And.intro hmg3 (And.intro hg hl5)))
  clear gv bS B4 OW4 BY4 BZ4 T4 hT4 g0 g1 g2 hsz4 hlt3 hmg3 hg hl5
  obtain ⟨l0, hl0⟩ : ∃ l0, l0 = w5.heap.size := ⟨_, rfl⟩
  go_wp2
  rw [← hl0] at SL HN ⊢
  generalize w5.alloc (.cells #[.int .i64 wd, .int .i64 H, .slice (some ⟨g, 0, none⟩) (wd * H) (wd * H)] 24) = wS at *
  generalize w3.heap.size = t0 at *
  clear hl0 i0 i1 i2
  go_loopw [38] (fun v wr => ∃ i : Nat, v = .int .i64 i ∧ i ≤ m ∧ (∀ k, k < i → nm t n (z k) < n) ∧ Upd (fun k => k = g) wS wr ∧ Pow wr g (wd * H) (pk t n z W bb i)) (fun v _ => m - (intOf v).toNat)
  case atStart => exact ⟨0, rfl, Nat.zero_le _, fun k h => by omega, Upd.refl _ _, (unhide SP).congr fun j _ => (pk_start t n z W bb j).symm⟩
  case round =>
    obtain ⟨i, rfl, hi, hall, hu, hp⟩ := hrel
    obtain ⟨n1, n2, n3, n4⟩ := unhide HN
    obtain ⟨⟨i0, i1, i2⟩, _⟩ := box_cells (unhide SI)
    have ltS : g < wS.heap.size := lt_of_cell ((unhide SP) 0 (Nat.mul_pos wd0 h2)).1
    have hbl : b < w.heap.size := (unhide II).px.lt m0
    have ci0 : wr.cell? ⟨w.heap.size, 0, none⟩ = some (.int .i64 W) := upd_c hu (i0) (by omega)
    have ci2 : wr.cell? ⟨w.heap.size, 2, none⟩ = some (.slice (some ⟨b, off, none⟩) m c) := upd_c hu (i2) (by omega)
    have ct0 : wr.cell? ⟨t0, 0, none⟩ = some (.int .i64 bb) := upd_c hu ((((unhide ST).cell 0).trans rfl)) (by omega)
    have ct1 : wr.cell? ⟨t0, 1, none⟩ = some (.int .i64 wd) := upd_c hu ((((unhide ST).cell 1).trans rfl)) (by omega)
    have cl2 : wr.cell? ⟨l0, 2, none⟩ = some (.slice (some ⟨g, 0, none⟩) (wd * H) (wd * H)) := upd_c hu (((unhide SL).cell 2).trans rfl) (by omega)
    have HU := hide hu
    have HP := hide hp
    have HA := hide hall
    by_cases hlt : i < m
    · have hlt' : (i : Int) < (m : Int) := by omega
      have p1 : wr.cell? ⟨b, off + i, none⟩ = some (.int .u32 (z i)) := upd_c hu (((unhide II).px.below (unhide SB) i hlt)) (by omega)
      have OWR := hide (own_upd (unhide SO) hu (by omega))
      have hkey : keyOf Try.prog 31 (.int .u32 (z i : Nat)) = some (.int .u32 (z i : Nat)) := keyOf_int_mk Try.underlying31 (wf32 (unhide HZ i hlt))
      clear hu hp hall i0 i1 i2
      by_cases hf : nm t n (z i) < n
      · have hhas : Maps.has D (.int .u32 (z i : Nat)) = true := ((unhide NU).has (z i)).trans (decide_eq_true hf)
        go_upto_region 12 with (first
          | (at_lookup; refine wpList_lookup_own_ok_int _ rfl _ _ 53 rfl 31 3 .i64 law31 Try.underlying53 Try.underlying3 (zero3 _) mg n _ rfl (unhide OWR) _ _ rfl hkey ?_; rw [hhas]; intro cN hat hwc)
          | go_in)
        have hc := num_eq (unhide NU) hf hat
        subst hc
        obtain ⟨v, hv⟩ : ∃ v, v = nm t n (z i) := ⟨_, rfl⟩
        rw [← hv] at hf ⊢
        have HV := hide hv
        clear hat hwc hv hkey hhas
        obtain ⟨y, x, hx, hy, hyx⟩ := row_of (W := W) (H := H) (i := i) h1 (by rw [← (unhide II).hn]; exact hlt)
        have x16 : x ≤ 16384 := by have := (unhide II).hW; omega
        have y16 : y ≤ 16384 := by have := (unhide II).hH; omega
        have w16 : wd ≤ 16384 := by have := (unhide II).hW; omega
        have hW0 : (0 : Int) < (W : Int) := by omega
        have ex := (at_div (y := y) hx).2
        have ey := (at_div (y := y) hx).1
        rw [hyx] at ex ey
        have rx1 : (i : Int).tmod (W : Int) = (x : Int) := by rw [tmod_nat, ex]
        have rx2 : (i : Int) % (W : Int) = (x : Int) := by rw [← ex]; rfl
        have ry1 : (i : Int).tdiv (W : Int) = (y : Int) := by rw [tdiv_nat, ey]
        have ry2 : (i : Int) / (W : Int) = (y : Int) := by rw [← ey]; rfl
        have k0 := cell_regrown ci0
        have k1 := cell_regrown ct0
        have k2 := cell_regrown ct1
        have at1 : y * wd + x / 2 ^ bb < wd * H := by
          have l1 := in_bl bb hx
          rw [← unhide HWD] at l1
          exact place_lt l1 hy
        have lw7 : x % 2 ^ bb * sz bb ≤ 7 := by
          have := low_le hb3 (Nat.mod_lt x (Nat.two_pow_pos bb))
          have := sz_pos hb3
          omega
        have PL := hide (fun w1 => place34 bb x y wd w1 hb3 x16 y16 w16)
        have GL := hide (show pk t n z W bb i (y * wd + x / 2 ^ bb) = 4278190080 + 256 * pg t n z W bb i (y * wd + x / 2 ^ bb) ∧ pg t n z W bb i (y * wd + x / 2 ^ bb) < 2 ^ (x % 2 ^ bb * sz bb) ∧ pg t n z W bb (i + 1) (y * wd + x / 2 ^ bb) = pg t n z W bb i (y * wd + x / 2 ^ bb) + v * 2 ^ (x % 2 ^ bb * sz bb) ∧ (∀ j, j ≠ y * wd + x / 2 ^ bb → pg t n z W bb (i + 1) j = pg t n z W bb i j) from by
          rw [unhide HWD, unhide HV, ← hyx]
          refine ⟨rfl, pg_lt hx fun k hk => ?_, pg_hit hx, fun j hj => pg_miss hx hj⟩
          rw [unhide HBB]
          refine nf_fits t2 ((unhide HA) _ ?_)
          rw [← unhide HBB, (bg_at hx).1, ← hyx]
          have := Nat.mod_le x (2 ^ bb)
          omega)
        have vfit : v * 2 ^ (x % 2 ^ bb * sz bb) < 256 := by
          have f1 : v < 2 ^ sz bb := by rw [unhide HBB]; exact num_fits t2 hf
          have f2 := low_le hb3 (Nat.mod_lt x (Nat.two_pow_pos bb))
          have f3 : (v + 1) * 2 ^ (x % 2 ^ bb * sz bb) ≤ 2 ^ sz bb * 2 ^ (x % 2 ^ bb * sz bb) := Nat.mul_le_mul_right _ f1
          rw [← Nat.pow_add] at f3
          have f4 : 2 ^ (sz bb + x % 2 ^ bb * sz bb) ≤ 2 ^ 8 := Nat.pow_le_pow_right (by omega) (by omega)
          have f5 := Nat.two_pow_pos (x % 2 ^ bb * sz bb)
          rw [Nat.add_mul] at f3
          omega
        have q1 : ∀ dd os, Calls Try.prog 34 #[.agg #[.int .i64 bb, .int .i64 wd], .int .i64 x, .int .i64 y] (grow (redrawn wr dd) os) fun e w'' => e = .returned (.tuple #[.int .i64 (y * wd + x / 2 ^ bb : Nat), .int .i64 (x % 2 ^ bb * sz bb : Nat)]) ∧ ∃ p : Regrown, w'' = grow (redrawn wr p.d) p.os := fun dd os => Calls.regrown_of (unhide PL _)
        generalize y * wd + x / 2 ^ bb = at0 at *
        generalize x % 2 ^ bb * sz bb = low at *
        have Q1 := hide q1
        clear q1 PL ex ey
        refine wp_region_quiet_below (by kernel_rfl) (by kernel_rfl) ?_
        repeat (go_big_quiet_step (first | (go_at_call 34; with_reducible exact unhide Q1 _ _)))
        refine wpQuiet_nil ?_
        intro _ hw'
        obtain ⟨⟨dq, osq⟩, hw''⟩ := hw'
        subst hw''
        have bq := below_regrown wr dq osq
        have UQ := hide ((unhide HU).trans (Upd.ofBelow bq))
        have PQ := hide ((unhide HP).below bq)
        have cl2 := cell_regrown cl2 dq osq
        generalize grow (redrawn wr dq) osq = wq at *
        clear ci0 ci2 ct0 ct1 p1 k0 k1 k2 Q1 bq HU HP OWR
        obtain ⟨G1, G2, G3, G4⟩ := unhide GL
        have r1 : wq.cell? ⟨g, at0, none⟩ = some (.int .u32 (pk t n z W bb i at0)) := ((unhide PQ) at0 at1).1
        have r2 : wq.frozen? ⟨g, at0, none⟩ = false := ((unhide PQ) at0 at1).2
        obtain ⟨V, hV⟩ : ∃ V, V = v * 2 ^ low := ⟨_, rfl⟩
        rw [← hV] at vfit G3
        have OR := or_low (G := pg t n z W bb i at0) (v := v) (l := low) (V := V) lw7 G2 hV.symm vfit
        have hVI : (v : Int) * (2 : Int) ^ low = (V : Int) := by rw [hV]; simp
        have MK := hide (show ∀ w1, Calls Try.prog 35 #[.int .u8 0, .int .u8 0, .int .u8 (V : Int), .int .u8 0] w1 fun e w' => e = .returned (.int .u32 (((0 * 256 + 0) * 256 + V) * 256 + 0 : Nat)) ∧ w' = w1 from fun w1 => make11 0 0 V 0 (by omega) (by omega) vfit (by omega) w1)
        have GM := hide G4
        have lwI : (low : Int) ≤ 7 := by omega
        have vI : (V : Int) < 256 := by omega
        have hw1 : IntKind.i64.wrap (V : Int) = (V : Int) := by simp [IntKind.wrap, IntKind.bits, IntKind.signed]; omega
        have hw2 : IntKind.u8.wrap (V : Int) = (V : Int) := by simp [IntKind.wrap, IntKind.bits, IntKind.signed]; omega
        rw [G1] at r1
        rw [← G3] at OR
        generalize hq : ((0 * 256 + 0) * 256 + V) * 256 + 0 = q at *
        have EQ := hide (show pk t n z W bb (i + 1) at0 = 4278190080 + 256 * pg t n z W bb (i + 1) at0 from rfl)
        generalize pg t n z W bb (i + 1) at0 = p2 at *
        generalize pg t n z W bb i at0 = p1 at *
        clear G1 G2 G3 G4 GL hV hq
        generalize 4278190080 + 256 * p2 = P2 at *
        generalize 4278190080 + 256 * p1 = P1 at *
        go_wp2_with fail
        go_region_with (first | (go_at_call 35; with_reducible refine Calls.mono (unhide MK _) ?_; rintro e w' ⟨rfl, rfl⟩))
        all_goals go_wp2
        all_goals
          go_roundw
          case rel =>
            refine ⟨i + 1, by go_num, by omega, fun k hk => ?_, Upd.setCell (S := fun k => k = g) ((unhide UQ).drewN 1) (p := ⟨g, at0, none⟩) rfl _, ?_⟩
            · by_cases e : k = i
              · subst e; rw [← unhide HV]; exact hf
              · exact unhide HA k (by omega)
            · refine Pow.congr (Pow.set (show Pow (wq.drewN 1) g (wd * H) (pk t n z W bb i) from unhide PQ) at0 P2) fun j hj => ?_
              by_cases e : j = at0
              · subst e; rw [if_pos rfl]; exact (unhide EQ).symm
              · rw [if_neg e]; unfold pk; rw [unhide GM j e]
          case measure => simp [intOf]; omega
      · have hhas : Maps.has D (.int .u32 (z i : Nat)) = false := ((unhide NU).has (z i)).trans (decide_eq_false hf)
        obtain ⟨⟨s0, s1, s2⟩, f0, f1, f2⟩ := box_cells ((unhide SR).keep (unhide HU) (by show ¬ _ = _; omega))
        have BR := hide ((unhide SR).keep (unhide HU) (by show ¬ _ = _; omega))
        go_wp2_with (first
          | (at_lookup; refine wpList_lookup_own_ok_int _ rfl _ _ 53 rfl 31 3 .i64 law31 Try.underlying53 Try.underlying3 (zero3 _) mg n _ rfl (unhide OWR) _ _ rfl hkey ?_; rw [hhas]; intro cN hat hwc)
          | go_in)
        have B3 := box3 (x := .int .i64 0) (y := .int .i64 0) (s := .slice none 0 0) (unhide BR)
        refine bodyPost_ret (results_row_tmp rfl _ _ (w.heap.size + 1) 24 #[.int .i64 0, .int .i64 0, .slice none 0 0] (0, 0) _ rfl B3 Try.underlying24 rfl (by kernel_rfl)) rfl ?_
        unfold PakV
        rw [if_neg (fun h => hf (h i hlt))]
        exact ⟨rfl, below3 ((unhide SB).trans ((unhide HU).below w.heap.size (unhide SB).size (fun k e => by omega))) (by omega)⟩
    · obtain rfl : i = m := by omega
      obtain ⟨⟨s0, s1, s2⟩, f0, f1, f2⟩ := box_cells ((unhide SR).keep (unhide HU) (by show ¬ _ = _; omega))
      have BR := hide ((unhide SR).keep (unhide HU) (by show ¬ _ = _; omega))
      have cl0 : wr.cell? ⟨l0, 0, none⟩ = some (.int .i64 wd) := upd_c hu (((unhide SL).cell 0).trans rfl) (by omega)
      have cl1 : wr.cell? ⟨l0, 1, none⟩ = some (.int .i64 H) := upd_c hu (((unhide SL).cell 1).trans rfl) (by omega)
      clear hu hp hall i0 i1 i2
      go_wp2
      have B3 := box3 (x := .int .i64 wd) (y := .int .i64 H) (s := .slice (some ⟨g, 0, none⟩) (wd * H) (wd * H)) (unhide BR)
      refine bodyPost_ret (results_row_tmp rfl _ _ (w.heap.size + 1) 24 #[.int .i64 wd, .int .i64 H, .slice (some ⟨g, 0, none⟩) (wd * H) (wd * H)] (0, 0) _ rfl B3 Try.underlying24 rfl (by kernel_rfl)) rfl ?_
      have hbb := unhide HBB
      subst hbb
      have hwd := unhide HWD
      subst hwd
      unfold PakV
      rw [if_pos (unhide HA)]
      refine ⟨g, rfl, ((((unhide HP).other (p := ⟨w.heap.size + 1, 0, none⟩) (show g ≠ w.heap.size + 1 by omega) _).other (p := ⟨w.heap.size + 1, 1, none⟩) (show g ≠ w.heap.size + 1 by omega) _).other (p := ⟨w.heap.size + 1, 2, none⟩) (show g ≠ w.heap.size + 1 by omega) _), by omega, below3 ((unhide SB).trans ((unhide HU).below w.heap.size (unhide SB).size (fun k e => by omega))) (by omega)⟩
end Go.Proofs.Ytflmlbdcjjldgaa.TPak
