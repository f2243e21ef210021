/- Contracts: cross's walk over all pixels, for whatever is done at each; Forth and Back. Conditions: the image is good and in memory, as are as many elements as blocks; the bits are from 2 to 9. -/
import Derived.Test.YtejfjocoadfahaaXFit
namespace Go.Proofs.Ytejfjocoadfahaa.XEch
set_option linter.unusedVariables false
open Go.ChangeShapes Go.WideShapes Go.ChangeAt Go.RowKit Go.Sort Go.Proofs.Ytejfjocoadfahaa.Core Go.Proofs.Ytejfjocoadfahaa.PNum Go.Proofs.Ytejfjocoadfahaa.PGoo Go.Proofs.Ytejfjocoadfahaa.XNum Go.Proofs.Ytejfjocoadfahaa.Ims Go.Proofs.Ytejfjocoadfahaa.XDel Go.Proofs.Ytejfjocoadfahaa.XLes Go.Proofs.Ytejfjocoadfahaa.LBlk Go.Proofs.Ytejfjocoadfahaa.XFit

/-- An image of one's own, all 0, and where it lies. -/
structure Dn (w : World) (W H n : Nat) (v : Value) (wx : World) : Prop where
  ex : ∃ g g', v = .pointer (some ⟨g, 0, none⟩) ∧ Box wx g 24 #[.int .i64 W, .int .i64 H, .slice (some ⟨g', 0, none⟩) n n] ∧ Pow wx g' n (fun _ => 0) ∧ g ≠ g' ∧ w.heap.size ≤ g ∧ w.heap.size ≤ g'
  bel : Below w.heap.size w wx
theorem dn_rs (w : World) (W H n : Nat) : Dn w W H n (.pointer (some ⟨w.heap.size + 1, 0, none⟩)) (((w.alloc (.cells (CNum.row (fun _ => 0) n) 32)).alloc (.cells #[.int .i64 W, .int .i64 H, .slice (some ⟨w.heap.size, 0, none⟩) n n] 24)).drew) :=
  have h := two_boxes w (CNum.row (fun _ => 0) n) #[.int .i64 W, .int .i64 H, .slice (some ⟨w.heap.size, 0, none⟩) n n] 32 24
  ⟨⟨w.heap.size + 1, w.heap.size, rfl, h.2, pow_row _ (show Box (World.drew _) _ _ _ from h.1), by omega, by omega, by omega⟩, bel_dr (bel_a2 w _ _)⟩
theorem dn_sr (w : World) (W H n : Nat) : Dn w W H n (.pointer (some ⟨w.heap.size, 0, none⟩)) (((w.alloc (.cells #[.int .i64 W, .int .i64 H, .slice (some ⟨w.heap.size + 1, 0, none⟩) n n] 24)).alloc (.cells (CNum.row (fun _ => 0) n) 32)).drew) :=
  have h := two_boxes w #[.int .i64 W, .int .i64 H, .slice (some ⟨w.heap.size + 1, 0, none⟩) n n] (CNum.row (fun _ => 0) n) 24 32
  ⟨⟨w.heap.size, w.heap.size + 1, rfl, h.1, pow_row _ (show Box (World.drew _) _ _ _ from h.2), by omega, by omega, by omega⟩, bel_dr (bel_a2 w _ _)⟩
/-- What each pixel becomes. -/
def ou (F : El → Nat → Nat) (E : Nat → El) (W k : Nat) (z : Nat → Nat) (i : Nat) : Nat := F (E (bk W k (i % W) (i / W))) (z i)
/-- The two images and the result's place, while pixels are put. -/
structure EaI (w : World) (W H b off n c gd gp : Nat) (f : Nat → Nat) (j : Nat) (wr : World) : Prop where
  bm : Box wr w.heap.size 24 #[.int .i64 W, .int .i64 H, .slice (some ⟨b, off, none⟩) n c]
  br : Box wr (w.heap.size + 1) 24 #[.int .i64 0, .int .i64 0, .slice none 0 0]
  bd : Box wr gd 24 #[.int .i64 W, .int .i64 H, .slice (some ⟨gp, 0, none⟩) n n]
  row : Pow wr gp n (fun i => if i < j then f i else 0)
  bel : Below w.heap.size w wr
theorem EaI.keep {w wr w' : World} {W H b off n c gd gp : Nat} {f : Nat → Nat} {j : Nat} (h : EaI w W H b off n c gd gp f j wr) (u : Below wr.heap.size wr w') : EaI w W H b off n c gd gp f j w' :=
  ⟨h.bm.below u h.bm.lt, h.br.below u h.br.lt, h.bd.below u h.bd.lt, h.row.below u, bel_into h.bel u⟩
theorem EaI.next {w wr : World} {W H b off n c gd gp : Nat} {f : Nat → Nat} {j v : Nat} (h : EaI w W H b off n c gd gp f j wr) (e : v = f j) (n1 : w.heap.size + 1 < gp) (n2 : gd ≠ gp) :
    EaI w W H b off n c gd gp f (j + 1) (wr.setCell ⟨gp, j, none⟩ (.int .u32 v)) := by
  subst e
  refine ⟨h.bm.other (by show w.heap.size ≠ gp; omega) _, h.br.other (by show w.heap.size + 1 ≠ gp; omega) _, h.bd.other n2 _, (h.row.set j (f j)).congr fun i _ => ?_, h.bel.setCell (p := ⟨gp, j, none⟩) (by show w.heap.size ≤ gp; omega) _⟩
  by_cases e : i = j
  · subst e
    rw [if_pos rfl, if_pos (by omega)]
  · rw [if_neg e]
    by_cases e2 : i < j
    · rw [if_pos e2, if_pos (by omega)]
    · rw [if_neg e2, if_neg (by omega)]
/-- An element of one's own. -/
structure Elx (w : World) (x y z : Int) (v : Value) (wx : World) : Prop where
  ex : ∃ g, v = .pointer (some ⟨g, 0, none⟩) ∧ Box wx g 37 #[.int .i8 x, .int .i8 y, .int .i8 z]
  bel : Below w.heap.size w wx
theorem elx_mk (w : World) (x y z : Int) : Elx w x y z (.pointer (some ⟨w.heap.size, 0, none⟩)) ((w.alloc (.cells #[.int .i8 x, .int .i8 y, .int .i8 z] 37)).drew) :=
  ⟨⟨_, rfl, show Box (World.drew _) _ _ _ from Box.made w _ _⟩, bel_dr (bel_a1 _ _)⟩
theorem el_cases (x y z : Int) : (x = 0 ∧ y = 0 ∧ z = 0) ∨ (x == 0) = false ∨ ((x == 0) = true ∧ (y == 0) = false) ∨ ((x == 0) = true ∧ (y == 0) = true ∧ (z == 0) = false) := by
  by_cases hx : x = 0
  · by_cases hy : y = 0
    · by_cases hz : z = 0
      · exact .inl ⟨hx, hy, hz⟩
      · exact .inr (.inr (.inr ⟨by simp [hx], by simp [hy], by simp [hz]⟩))
    · exact .inr (.inr (.inl ⟨by simp [hx], by simp [hy]⟩))
  · exact .inr (.inl (by simp [hx]))
theorem el_place {W H k X Y m : Nat} (hW : W ≤ 16384) (hH : H ≤ 16384) (hk : k ≤ 9) (hX : X < W) (hY : Y < H) (hm : m = bl W k * bl H k) :
    ∃ s xe ye p : Nat, (2 : Int) ^ k = (s : Int) ∧ 0 < s ∧ (X : Int) / (s : Int) = (xe : Int) ∧ (Y : Int) / (s : Int) = (ye : Int) ∧ IntKind.i64.wrap ((ye : Int) * (bl W k : Int)) = (p : Int) ∧ xe ≤ 16384 ∧ ye ≤ 16384 ∧ p ≤ 268435456 ∧ p + xe < m ∧ bk W k X Y = p + xe := by
  have h1 := div_le_side (k := k) hX hW
  have h2 := div_le_side (k := k) hY hH
  have h3 := Nat.le_trans (bl_le W k) hW
  have h4 : bk W k X Y < m := by rw [hm]; exact bk_lt k hX hY
  exact ⟨2 ^ k, X / 2 ^ k, Y / 2 ^ k, Y / 2 ^ k * bl W k, (pow_cast k).symm, pow_pos k, rfl, rfl, prod_wrap h2 h3, h1, h2, Nat.mul_le_mul h2 h3, h4, rfl⟩
theorem ou_is (F : El → Nat → Nat) (E : Nat → El) (W k : Nat) (z : Nat → Nat) (j t : Nat) (e : El) (h : bk W k (j % W) (j / W) = t) (he : E t = e) : ou F E W k z j = F e (z j) := by unfold ou; rw [h, he]
set_option maxRecDepth 20000 in
set_option maxHeartbeats 1000000 in
theorem each18 (K : Nat) (eg : ∀ args w, (callFunc K args).run Try.prog w = .ok (.enter K args) w) (F : El → Nat → Nat)
    (ask : ∀ (e : El) (p : Nat) (w : World), e.ok → Calls Try.prog K #[.int .u32 p, .agg #[.int .i8 e.a, .int .i8 e.b, .int .i8 e.c]] w fun e' w' => e' = .returned (.int .u32 (F e p)) ∧ Below w.heap.size w w')
    (zero : ∀ p, p < 4294967296 → F .zero p = p) {W H k m b off n bb bo : Nat} (c cm : Nat) {z : Nat → Nat} {E : Nat → El} {w : World} (I : Img w W H b off n z) (ZB : ∀ i, i < n → z i < 4294967296) (EL : Els w bb bo m E)
    (hW1 : 1 ≤ W) (hH1 : 1 ≤ H) (hk2 : 2 ≤ k) (hk : k ≤ 9) (hm : m = bl W k * bl H k) (hl : n ≤ 1000000) :
    Calls Try.prog 18 #[.agg #[.int .i64 W, .int .i64 H, .slice (some ⟨b, off, none⟩) n c], .int .i64 k, .slice (some ⟨bb, bo, none⟩) m cm, .func (.func K) #[] #[]] w fun e w' =>
      ∃ g, e = .returned (.tuple #[.agg #[.int .i64 W, .int .i64 H, .slice (some ⟨g, 0, none⟩) n n], .int .i64 0]) ∧ Gives w n g (ou F E W k z) w' := by
  have hW := I.hW
  have hH := I.hH
  have HG := gd_mk hW1 hW hH1 hH I.hn
  have BL := hide (bel_a2 w (.cells #[.int .i64 W, .int .i64 H, .slice (some ⟨b, off, none⟩) n c] 24) (.cells #[.int .i64 0, .int .i64 0, .slice none 0 0] 24))
  have BR := hide (two_boxes w #[.int .i64 W, .int .i64 H, .slice (some ⟨b, off, none⟩) n c] #[.int .i64 0, .int .i64 0, .slice none 0 0] 24 24)
  have HN := hide I.hn
  have I0 := hide I
  have E0 := hide EL
  have ASK := hide ask
  have ZERO := hide zero
  have ZB0 := hide ZB
  have HM := hide hm
  have hmk := fun w => CNum.make_row w n hl
  have FIT := hide (fun w => fit24 W H k (some ⟨b, off, none⟩) (some ⟨bb, bo, none⟩) n c m cm w HG hW hH hk2 hk hm)
  have BLK := hide (fun w => blk36 W k w hW hk)
  clear I EL ask zero ZB hm HG
  go_enter Try.func18, Try.ntmps18
  go_wp2_with fail
  refine (unhide FIT _).mono ?_
  rintro e w2 ⟨rfl, b2⟩
  have B2 := hide (below_two (unhide BL) b2)
  have X2 := hide ((unhide BR).1.below b2 (unhide BR).1.lt)
  have R2 := hide ((unhide BR).2.below b2 (unhide BR).2.lt)
  obtain ⟨⟨m0, m1, m2⟩, _⟩ := box_cells (unhide X2)
  have hx2 := (unhide R2).lt
  have hxm := (unhide X2).lt
  clear b2 BL BR
  go_upto_region 3 with fail
  go_cut [10] from 23 to 31 (fun v wx => Dn w2 W H n v wx)
  case first =>
    go_region
    all_goals go_wp2_with fail
    all_goals go_meet
    all_goals first | exact dn_rs _ _ _ _ | exact dn_sr _ _ _ _
  case rest =>
    obtain ⟨⟨gd, gp, rfl, bd, pw, hne, h1, h2⟩, bel⟩ := hcut
    have hs2 := (unhide R2).lt
    have N1 : Hid (w.heap.size + 1 < gp) := hide (by omega)
    have ND : Hid (w.heap.size + 1 < gd) := hide (by omega)
    have N2 := hide hne
    have A0 : Hid (EaI w W H b off n c gd gp (ou F E W k z) 0 wc) := hide ⟨(unhide X2).below (bel.mono (Nat.le_refl _)) (unhide X2).lt, (unhide R2).below bel (unhide R2).lt, bd, pw.congr (fun i _ => by rw [if_neg (by omega)]), bel_into (unhide B2) bel⟩
    clear bd pw hne h1 h2 bel m0 m1 m2 hx2 hxm X2 R2 B2 hs2 hmk
    obtain ⟨⟨m0, m1, m2⟩, _⟩ := box_cells (unhide A0).bm
    have hgm := (unhide A0).bm.lt
    go_wp2_with fail
    refine (unhide BLK _).mono ?_
    rintro e w3 ⟨rfl, rfl⟩
    generalize hq : bl W k = q at *
    have HQ := hide hq
    clear hq
    go_wp2_with fail
    go_loopw [39] (fun i wr => ∃ j : Nat, j ≤ n ∧ i = .int .i64 j ∧ EaI w W H b off n c gd gp (ou F E W k z) j wr) (fun i _ => n - (intOf i).toNat)
    case atStart => exact ⟨0, Nat.zero_le _, rfl, unhide A0⟩
    case round =>
      obtain ⟨j, hj, rfl, A⟩ := hrel
      clear m0 m1 m2 A0 hgm
      obtain ⟨⟨m0, m1, m2⟩, _⟩ := box_cells A.bm
      have hgm := A.bm.lt
      have AA := hide A
      by_cases hlt : j < n
      · have hlt' : (j : Int) < (n : Int) := by omega
        have hjp := ((unhide I0).below A.bel).px j hlt
        have hbl := lt_of_cell hjp
        clear A
        obtain ⟨X, Y, eX, eY, hX, hY, hX1, hY1⟩ : ∃ X Y : Nat, ((j : Int)).tmod (W : Int) = (X : Int) ∧ ((j : Int)).tdiv (W : Int) = (Y : Int) ∧ X = j % W ∧ Y = j / W ∧ X < W ∧ Y < H :=
          ⟨j % W, j / W, rfl, rfl, rfl, rfl, Nat.mod_lt _ hW1, Nat.div_lt_of_lt_mul (unhide HN ▸ hlt)⟩
        obtain ⟨s, xe, ye, p, hps, hs0, ex, ey, MW, hxe, hye, hpb, hin, hbk⟩ := el_place hW hH hk hX1 hY1 ((unhide HQ).symm ▸ unhide HM)
        rw [unhide HQ] at MW
        have HBK : Hid (bk W k (j % W) (j / W) = p + xe) := hide (by rw [← hX, ← hY]; exact hbk)
        have hX2 : X ≤ 16384 := by omega
        have hY2 : Y ≤ 16384 := by omega
        clear hX hY hbk hX1 hY1
        obtain ⟨e0, e1, e2, eok⟩ := (unhide E0).below (unhide AA).bel _ hin
        have hbb := lt_of_cell e0
        generalize hE : E (p + xe) = el at *
        have HE := hide hE
        have EOK := hide eok
        obtain ⟨x, y, zz⟩ := el
        simp only at e0 e1 e2
        clear hE eok
        go_upto_region 8 with fail
        go_quiet (fail)
        rename_i nq
        have BB := hide (drewN_below wr nq)
        have m0' : (wr.drewN nq).cell? ⟨w.heap.size, 0, none⟩ = some (.int .i64 W) := m0
        have e0' : (wr.drewN nq).cell? ⟨bb, bo + (p + xe) * 3, none⟩ = some (.int .i8 x) := e0
        have e1' : (wr.drewN nq).cell? ⟨bb, bo + (p + xe) * 3 + 1, none⟩ = some (.int .i8 y) := e1
        have e2' : (wr.drewN nq).cell? ⟨bb, bo + (p + xe) * 3 + 2, none⟩ = some (.int .i8 zz) := e2
        have hbb' : bb < (wr.drewN nq).heap.size := hbb
        clear m0 m1 m2 e0 e1 e2 hbb hgm hbl hjp
        generalize wr.drewN nq = wA at *
        go_upto_region 9 with fail
        go_cut [16] from 52 to 63 (fun v wx => Elx wA x y zz v wx)
        case first =>
          go_region
          all_goals go_wp2_with fail
          all_goals go_meet
          all_goals exact elx_mk _ _ _ _
        case rest =>
          obtain ⟨⟨ge, rfl, be⟩, bel⟩ := hcut
          have A5 := hide ((unhide AA).keep (bel_into (unhide BB) bel))
          have HJ : Hid (ou F E W k z j = F ⟨x, y, zz⟩ (z j)) := hide (ou_is F E W k z j _ _ (unhide HBK) (unhide HE))
          have ZJ := hide (unhide ZB0 j hlt)
          have hge := be.lt
          obtain ⟨e0, e1, e2⟩ := box_el be
          have BE := hide be
          obtain ⟨⟨d0, d1, d2⟩, _⟩ := box_cells (unhide A5).bd
          have hgd := (unhide A5).bd.lt
          obtain ⟨pj, fj⟩ := (unhide A5).row j hlt
          have hgp := lt_of_cell pj
          generalize hzj : z j = zj at *
          clear be bel e0' e1' e2' hbb' m0' hzj
          rcases el_cases x y zz with ⟨rfl, rfl, rfl⟩ | hx | ⟨hx, hy⟩ | ⟨hx, hy, hz⟩
          · go_wp2_with fail
            go_roundw
            case rel => exact ⟨j + 1, by omega, by go_num, (unhide A5).next ((unhide HJ).trans (unhide ZERO zj (unhide ZJ))).symm (unhide N1) (unhide N2)⟩
            case measure => simp [intOf]; omega
          all_goals
            have NX := hide (fun w => unhide ASK ⟨x, y, zz⟩ zj w (unhide EOK))
            generalize F ⟨x, y, zz⟩ zj = fv at *
            clear d0 d1 d2 hgd pj fj hgp
            go_wp2_with (go_at_fn K; refine (unhide NX _).mono ?_; rintro e' w6 ⟨rfl, b6⟩; have A6 := hide ((unhide A5).keep b6); obtain ⟨⟨d0, d1, d2⟩, _⟩ := box_cells (unhide A6).bd; have hgd := (unhide A6).bd.lt; obtain ⟨pj, fj⟩ := (unhide A6).row j hlt; have hgp := lt_of_cell pj; clear b6)
            go_roundw
            case rel => exact ⟨j + 1, by omega, by go_num, (unhide A6).next (unhide HJ).symm (unhide N1) (unhide N2)⟩
            case measure => simp [intOf]; omega
      · obtain rfl : j = n := by omega
        obtain ⟨⟨d0, d1, d2⟩, _⟩ := box_cells A.bd
        have hgd := A.bd.lt
        obtain ⟨⟨r0, r1, r2⟩, f0, f1, f2⟩ := box_cells A.br
        have hgr := A.br.lt
        clear A
        have hnl : ¬ (j : Int) < (j : Int) := by omega
        go_wp2
        exact bodyPost_ret (results_row_tmp rfl _ _ (w.heap.size + 1) 24 _ (0, 0) _ rfl ((((unhide AA).br.set 0 _).set 1 _).set 2 _) Try.underlying24 rfl (by kernel_rfl)) rfl ⟨gp, rfl, ⟨((((unhide AA).row.other (p := ⟨w.heap.size + 1, 0, none⟩) (fun h => by have := unhide N1; have h' : gp = w.heap.size + 1 := h; omega) _).other (p := ⟨w.heap.size + 1, 1, none⟩) (fun h => by have := unhide N1; have h' : gp = w.heap.size + 1 := h; omega) _).other (p := ⟨w.heap.size + 1, 2, none⟩) (fun h => by have := unhide N1; have h' : gp = w.heap.size + 1 := h; omega) _).congr (fun i hi => if_pos hi), Nat.le_of_lt (Nat.lt_of_succ_lt (unhide N1)), (((unhide AA).bel.setCell (p := ⟨w.heap.size + 1, 0, none⟩) (by simp) _).setCell (p := ⟨w.heap.size + 1, 1, none⟩) (by simp) _).setCell (p := ⟨w.heap.size + 1, 2, none⟩) (by simp) _⟩⟩
end Go.Proofs.Ytejfjocoadfahaa.XEch
