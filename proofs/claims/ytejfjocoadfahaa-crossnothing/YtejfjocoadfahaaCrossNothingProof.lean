/-
  What is proved: Elements of nothing change nothing, and of a picture without green and red nothing is changed by any element, and the arguments are as they were: the Go function CrossNothing of the statements of layer 14 returns true for all arguments.
  Conditions: none.
-/
import Derived.Test.YtejfjocoadfahaaRows
import Derived.Test.YtejfjocoadfahaaIApp
import Derived.Test.YtejfjocoadfahaaXGth
import Derived.Test.YtejfjocoadfahaaLRef
import Derived.WalkKit
import Derived.ProofKit
import Derived.OpenShut
import Derived.ShutString
import Derived.ChangeOld
import Derived.Below
import Derived.Deep.Grids
import Derived.Lib.SmallJoins
namespace Go.Proofs.Ytejfjocoadfahaa.crossNothing
open Go.ChangeShapes Go.WideShapes Go.ChangeAt Go.RowKit
open Go.Proofs.Ytejfjocoadfahaa.Core Go.Proofs.Ytejfjocoadfahaa.PNum Go.Proofs.Ytejfjocoadfahaa.PPrt Go.Proofs.Ytejfjocoadfahaa.PGoo Go.Proofs.Ytejfjocoadfahaa.XNum Go.Proofs.Ytejfjocoadfahaa.Ims Go.Proofs.Ytejfjocoadfahaa.IApp Go.Proofs.Ytejfjocoadfahaa.LRef Go.Proofs.Ytejfjocoadfahaa.XDel Go.Proofs.Ytejfjocoadfahaa.XLes Go.Proofs.Ytejfjocoadfahaa.LBlk Go.Proofs.Ytejfjocoadfahaa.XFit Go.Proofs.Ytejfjocoadfahaa.XEch Go.Proofs.Ytejfjocoadfahaa.XFor Go.Proofs.Ytejfjocoadfahaa.XInp Go.Proofs.Ytejfjocoadfahaa.XGth
open Go.ChangeMaps (open_string shut_string)
set_option linter.unusedVariables false

theorem own : ownKnob Try.prog.godebug = none := by kernel_rfl
theorem laidOut : laidOutB Try.prog = true := by kernel_rfl

/-- A slice of integers that came in: nil, or a row of cells, each fitting its kind. -/
def IsRow (k : IntKind) (w : World) (a : Option Addr) (len cap : Nat) (zs : List Int) : Prop :=
  (a = none ∧ len = 0 ∧ cap = 0 ∧ zs = []) ∨
  ∃ x, a = some x ∧ len ≤ cap ∧ cap ≤ maxLen ∧ zs.length = cap ∧ (∀ i, i < zs.length → w.cell? (x.add i) = some (.int k (zs.getD i 0))) ∧ ∀ n ∈ zs, (Lit.int k n).wf = true
/-- A slice of bools that came in. -/
def IsBools (w : World) (a : Option Addr) (len cap : Nat) (B : Nat → Bool) : Prop :=
  (a = none ∧ len = 0 ∧ cap = 0) ∨ ∃ x, a = some x ∧ len ≤ cap ∧ cap ≤ maxLen ∧ ∀ i, i < cap → w.cell? (x.add i) = some (.bool (B i))
open Go.Sort
theorem rgood (x y : Int) (a : Option Addr) (n c : Nat) (b : Bool) (w : World) (h : gdV x y n = b) :
    Calls Try.prog 6 #[.agg #[.int .i64 x, .int .i64 y, .slice a n c]] w fun e w' => e = .returned (.bool b) ∧ Below w.heap.size w w' := h ▸ rgood25 x y a n c w
theorem many4 (W H : Nat) (a : Option Addr) (n c : Nat) (w : World) (hW : W ≤ 16384) (hH : H ≤ 16384) :
    Calls Try.prog 7 #[.agg #[.int .i64 W, .int .i64 H, .slice a n c], .int .i64 4] w fun e w' => e = .returned (.int .i64 ((bl W 4 * bl H 4 : Nat) : Int)) ∧ Below w.heap.size w w' := rmany26 W H 4 a n c w hW hH (by omega)
theorem forth4 {W H m b off n bb bo : Nat} (c cm : Nat) {z : Nat → Nat} {e : El} {w : World} (I : Img w W H b off n z) (ZB : ∀ i, i < n → z i < 4294967296) (EL : Els w bb bo m (fun _ => e))
    (hW1 : 1 ≤ W) (hH1 : 1 ≤ H) (hm : m = bl W 4 * bl H 4) (hl : n ≤ 1000000) (same : ∀ i, i < n → lsV e (z i) = z i) :
    Calls Try.prog 9 #[.agg #[.int .i64 W, .int .i64 H, .slice (some ⟨b, off, none⟩) n c], .int .i64 4, .slice (some ⟨bb, bo, none⟩) m cm] w fun e w' =>
      ∃ g, e = .returned (.tuple #[.agg #[.int .i64 W, .int .i64 H, .slice (some ⟨g, 0, none⟩) n n], .int .i64 0]) ∧ Gives w n g z w' :=
  (forth9 (k := 4) c cm I ZB EL hW1 hH1 (by omega) (by omega) hm hl).mono fun e w' ⟨g, he, G⟩ => ⟨g, he, G.row.congr same, G.new, G.bel⟩
theorem and_ab {v : Nat} (h : v < 4294967296) : bits .and .u32 (v : Int) 4278190335 = (ab v : Int) := u32_and_nat v 4278190335 h (by omega)
set_option maxRecDepth 20000 in
set_option maxHeartbeats 1000000 in
theorem walk (a0_0 : Int) (a0_1 : Int) (a0_2 : Option Addr) (len0_2 cap0_2 : Nat) (z0_2 : List Int) (a1_0 : Int) (a1_1 : Int) (a1_2 : Int) (w : World) (w0_0 : (Lit.int .i64 a0_0).wf = true) (w0_1 : (Lit.int .i64 a0_1).wf = true) (w0_2 : IsRow .u32 w a0_2 len0_2 cap0_2 z0_2) (w1_0 : (Lit.int .i8 a1_0).wf = true) (w1_1 : (Lit.int .i8 a1_1).wf = true) (w1_2 : (Lit.int .i8 a1_2).wf = true) :
    Calls Try.prog 5 #[.agg #[.int .i64 a0_0, .int .i64 a0_1, .slice a0_2 len0_2 cap0_2], .agg #[.int .i8 a1_0, .int .i8 a1_1, .int .i8 a1_2]] w fun e w' => e = .returned (.bool true) ∧ Below w.heap.size w w' := by
  obtain ⟨x0, x1⟩ := bounds_i8 w1_0
  obtain ⟨y0, y1⟩ := bounds_i8 w1_1
  obtain ⟨z0, z1⟩ := bounds_i8 w1_2
  have he := hide (show (El.mk a1_0 a1_1 a1_2).ok from ⟨x0, x1, y0, y1, z0, z1⟩)
  have BL := hide (bel_a2 w (.cells #[.int .i64 a0_0, .int .i64 a0_1, .slice a0_2 len0_2 cap0_2] 24) (.cells #[.int .i8 a1_0, .int .i8 a1_1, .int .i8 a1_2] 37))
  have BR := hide (two_boxes w #[.int .i64 a0_0, .int .i64 a0_1, .slice a0_2 len0_2 cap0_2] #[.int .i8 a1_0, .int .i8 a1_1, .int .i8 a1_2] 24 37)
  clear w0_0 w0_1 w1_0 w1_1 w1_2 x0 x1 y0 y1 z0 z1
  rcases Bool.eq_false_or_eq_true (gdV a0_0 a0_1 len0_2) with hg | hg
  · have GD := hide (fun w => rgood a0_0 a0_1 a0_2 len0_2 cap0_2 true w hg)
    by_cases hbig : 1000 < len0_2
    · clear w0_2 hg
      go_enter Try.func5, Try.ntmps5
      go_wp2_with fail
      refine (unhide GD _).mono ?_
      rintro e w1 ⟨rfl, b1⟩
      have B1 := hide (bel_into (unhide BL) b1)
      have X1 := hide ((unhide BR).1.below b1 (unhide BR).1.lt)
      have L1 := hide ((unhide BR).2.below b1 (unhide BR).2.lt)
      obtain ⟨⟨c0, c1, c2⟩, _⟩ := box_cells (unhide X1)
      have hm1 := (unhide X1).lt
      clear b1 BL BR
      go_wp2_with fail
      refine (ans8 _).mono ?_
      rintro e w9 ⟨rfl, b9⟩
      have B9 := hide (bel_into (unhide B1) b9)
      clear b9
      go_wp2
      go_ret
      exact ⟨rfl, unhide B9⟩
    · have hsm : len0_2 ≤ 1000 := by omega
      clear hbig
      obtain ⟨b, off, z, W, H, rfl, rfl, rfl, I, hW1, hH1, zb⟩ := img_of w0_2 hg
      obtain ⟨n, hne⟩ : ∃ n, n = len0_2 := ⟨_, rfl⟩
      subst hne
      have hW := I.hW
      have hH := I.hH
      have HN := hide I.hn
      have hn0 : 0 < n := by rw [I.hn]; exact Nat.mul_pos hW1 hH1
      have I0 := hide I
      have ZB := hide zb
      have MY := hide (fun w => many4 W H (some ⟨b, off, none⟩) n cap0_2 w hW hH)
      obtain ⟨r, hr⟩ : ∃ r, bl W 4 * bl H 4 = r := ⟨_, rfl⟩
      rw [hr] at MY
      have hr0 : 0 < r := by rw [← hr]; exact Nat.mul_pos (bl_pos 4 hW1) (bl_pos 4 hH1)
      have hr1 : r ≤ 1000 := by rw [← hr]; exact Nat.le_trans (Nat.mul_le_mul (bl_le W 4) (bl_le H 4)) (by rw [← I.hn]; exact hsm)
      have HR := hide hr
      obtain ⟨i0, hi0, hz0, hz1, hz2⟩ := info_parts info37
      clear I zb hg w0_2 hr
      go_enter Try.func5, Try.ntmps5
      go_wp2_with fail
      refine (unhide GD _).mono ?_
      rintro e w1 ⟨rfl, b1⟩
      have B1 := hide (bel_into (unhide BL) b1)
      have X1 := hide ((unhide BR).1.below b1 (unhide BR).1.lt)
      have L1 := hide ((unhide BR).2.below b1 (unhide BR).2.lt)
      obtain ⟨⟨c0, c1, c2⟩, _⟩ := box_cells (unhide X1)
      have hm1 := (unhide X1).lt
      clear b1 BL BR
      go_wp2_with fail
      go_loopw [6] (fun i wr => ∃ (j : Nat) (v : Value), j ≤ n ∧ i = .int .i64 j ∧ Pga w1 W H (fun i => ab (z i)) j v wr) (fun i _ => n - (intOf i).toNat)
      case atStart => exact ⟨0, _, Nat.zero_le _, rfl, Pga.start w1 W H _⟩
      case round =>
        obtain ⟨j, v, hj, rfl, P⟩ := hrel
        have PG := hide P
        clear c0 c1 c2 hm1
        have X2 := hide ((unhide X1).below P.bel (unhide X1).lt)
        have L2 := hide ((unhide L1).below P.bel (unhide L1).lt)
        obtain ⟨⟨c0, c1, c2⟩, _⟩ := box_cells (unhide X2)
        have hm2 := (unhide X2).lt
        obtain ⟨⟨d0, d1, d2⟩, f0, f1, f2⟩ := box_cells P.box
        have hd2 := P.box.lt
        by_cases hlt : j < n
        · have hlt' : (j : Int) < (n : Int) := by omega
          obtain ⟨va, vc, rfl⟩ := own_slice P.own
          have px := ((unhide I0).below (bel_into (unhide B1) P.bel)).px j hlt
          have hpx := lt_of_cell px
          have KA := and_ab (unhide ZB j hlt)
          obtain ⟨u, hu⟩ : ∃ u, ab (z j) = u := ⟨_, rfl⟩
          have HU : Hid ((fun i => ab (z i)) j = u) := hide hu
          rw [hu] at KA
          clear P hu
          generalize z j = y at *
          go_upto_region 7 with fail
          go_region_law (refine step_app rfl (.tmp 37) (.tmp 44) rfl (w1.heap.size + 1) (.slice va j vc) j (pcells (fun i => ab (z i)) j) (by simp [Act.eval]) ((unhide PG).own.alloc _).drew ⟨wr.heap.size, 0, none⟩ 1 1 [.int .u32 u] (by simp [Act.eval]) rfl (cell_one_new _ _ _) (one_one _ _) (by omega) (by have := (unhide PG).box.lt; simp; omega) ?_; intro v' w' own1 gr0; have gr1 := gr_drew gr0; have BX1 := (unhide PG).box1 gr1; have PA := hide ((unhide PG).app own1 gr1 (congrArg Int.ofNat (unhide HU).symm)); obtain ⟨⟨d01, d11, d21⟩, f01, f11, f21⟩ := box_cells BX1; have hd21 := BX1.lt; obtain ⟨ua, uc, rfl⟩ := own_slice own1; clear own1 gr0 gr1 BX1)
          all_goals
            go_wp2_with fail
            go_roundw
            case rel => exact ⟨j + 1, _, by omega, by go_num, unhide PA⟩
            case measure => simp [intOf]; omega
        · obtain rfl : j = n := by omega
          have hnl : ¬ (j : Int) < (j : Int) := by omega
          obtain ⟨gz, cz, rfl, pw, hg1, hg2⟩ := own_pow P.own hn0
          have IN : Hid (Img wr W H gz 0 j (fun i => ab (z i))) := hide (img_own hW hH (unhide HN) pw)
          have BW := hide (bel_into (unhide B1) P.bel)
          have N2 := hide P.box
          clear P PG pw hg1 hg2 X1 L1 B1
          generalize w1.heap.size = gn at *
          generalize wr = wl at *
          go_upto_region 9 with fail
          clear c0 c1 c2 d0 d1 d2 f0 f1 f2 hm2 hd2
          go_wp2_with fail
          go_loopw [7, 8, 9] (fun va vb i wq => ∃ q : Nat, q ≤ r ∧ i = .int .i64 q ∧ Ab wl El.zero ⟨a1_0, a1_1, a1_2⟩ va vb q wq) (fun _ _ i _ => r - (intOf i).toNat)
          case atStart => exact ⟨0, Nat.zero_le _, rfl, Ab.start _ _ _⟩
          case round =>
            obtain ⟨q, hq, rfl, A⟩ := hrel
            obtain ⟨⟨c0, c1, c2⟩, _⟩ := box_cells ((unhide X2).below A.bel (unhide X2).lt)
            have hm3 := ((unhide X2).below A.bel (unhide X2).lt).lt
            have A0 := hide A
            clear A
            go_wp2_with fail
            refine (unhide MY _).mono ?_
            rintro e w5 ⟨rfl, b5⟩
            have A5 := hide ((unhide A0).keep b5)
            have L5 := hide ((unhide L2).below (unhide A5).bel (unhide L2).lt)
            clear b5 c0 c1 c2 hm3 A0
            by_cases hlq : q < r
            · have hlq' : (q : Int) < (r : Int) := by omega
              obtain ⟨e0, e1, e2⟩ := box_el (unhide L5)
              go_wp2_with (first | (at_builtin; refine wpList_append_own_at _ rfl (.tmp 53) (.tmp 55) 25 rfl wl.heap.size 37 i0 (.agg #[.int .i8 0, .int .i8 0, .int .i8 0]) 3 3 Try.underlying25 hi0 hz0 hz1 hz2 rfl (by decide) _ q (ecs El.zero q) rfl ((unhide A5).oa.alloc _) ⟨w5.heap.size, 0, none⟩ 1 1 [.int .i8 0, .int .i8 0, .int .i8 0] rfl rfl (three_new _ _ _ _ _) (three_one 0 0 0) (by unfold maxLen; omega) (by omega) (by have := (unhide A5).bel.size; simp; omega) ?_; intro v1 w6 own1 gr1 _ at1; have M6 := hide ((unhide A5).mid own1 gr1 at1); have L6 := hide ((unhide L2).below (unhide M6).2.2.2 (unhide L2).lt); clear own1 gr1 at1 e0 e1 e2; obtain ⟨e0, e1, e2⟩ := box_el (unhide L6)) | (at_builtin; refine wpList_append_own_at _ rfl (.tmp 57) (.tmp 59) 25 rfl wl.heap.size 37 i0 (.agg #[.int .i8 0, .int .i8 0, .int .i8 0]) 3 3 Try.underlying25 hi0 hz0 hz1 hz2 rfl (by decide) _ q (ecs ⟨a1_0, a1_1, a1_2⟩ q) rfl ((unhide M6).2.1.alloc _) ⟨w6.heap.size, 0, none⟩ 1 1 [.int .i8 a1_0, .int .i8 a1_1, .int .i8 a1_2] rfl rfl (three_new _ _ _ _ _) (three_one a1_0 a1_1 a1_2) (by unfold maxLen; omega) (by omega) (by have := (unhide M6).2.2.2.size; simp; omega) ?_; intro v2 w7 own2 gr2 _ at2; have A7 := hide (Ab.next (unhide M6).1 (unhide M6).2.1 (unhide M6).2.2.1 (unhide M6).2.2.2 own2 gr2 at2); clear own2 gr2 at2) | fail)
              go_roundw
              case rel => exact ⟨q + 1, by omega, by go_num, unhide A7⟩
              case measure => simp [intOf]; omega
            · obtain rfl : q = r := by omega
              have hnq : ¬ (q : Int) < (q : Int) := by omega
              obtain ⟨ga, ca, rfl, EA⟩ := own_els (unhide A5).oa El.zero_ok hr0
              obtain ⟨gb, cb, rfl, EB⟩ := own_els (unhide A5).ob (unhide he) hr0
              have EA0 := hide EA
              have EB0 := hide EB
              have X5 := hide ((unhide X2).below (unhide A5).bel (unhide X2).lt)
              have N5 := hide ((unhide N2).below (unhide A5).bel (unhide N2).lt)
              have IN5 := hide ((unhide IN).below (unhide A5).bel)
              have B5 := hide (bel_into (unhide BW) (unhide A5).bel)
              obtain ⟨⟨c0, c1, c2⟩, _⟩ := box_cells (unhide X5)
              have hm5 := (unhide X5).lt
              clear EA EB A5 L5 X2 L2 N2 IN BW
              go_wp2_with fail
              refine (forth4 cap0_2 ca ((unhide I0).below (unhide B5)) (unhide ZB) (unhide EA0) hW1 hH1 (unhide HR).symm (by omega) (fun i hi => ls_zero (unhide ZB i hi))).mono ?_
              rintro e w6 ⟨g1, rfl, G⟩
              have A6 := hide (bel_into G.bel (bel_a1 w6 (.cells #[.int .i64 W, .int .i64 H, .slice (some ⟨g1, 0, none⟩) j j] 24)))
              have X6 := hide ((unhide X5).below (unhide A6) (unhide X5).lt)
              have N6 := hide ((unhide N5).below (unhide A6) (unhide N5).lt)
              have IN6 := hide ((unhide IN5).below (unhide A6))
              have EB6 := hide ((unhide EB0).below (unhide A6))
              have B6 := hide (bel_into (unhide B5) (unhide A6))
              have R6 := hide (G.row.below (bel_a1 w6 (.cells #[.int .i64 W, .int .i64 H, .slice (some ⟨g1, 0, none⟩) j j] 24)))
              have Y6 := hide (Box.made w6 24 #[.int .i64 W, .int .i64 H, .slice (some ⟨g1, 0, none⟩) j j])
              clear G A6 c0 c1 c2 hm5 X5 N5 IN5 EB0 EA0 B5
              go_upto_region 15 with fail
              generalize w6.heap.size = gx at *
              generalize w6.alloc (.cells #[.int .i64 W, .int .i64 H, .slice (some ⟨g1, 0, none⟩) j j] 24) = w7 at *
              obtain ⟨⟨d0, d1, d2⟩, _⟩ := box_cells (unhide N6)
              have hd6 := (unhide N6).lt
              go_wp2_with fail
              refine (forth4 cz cb (unhide IN6) (fun i _ => ab_lt (z i)) (unhide EB6) hW1 hH1 (unhide HR).symm (by omega) (fun i _ => ls_none _ (ab_lt (z i)) (ab_1 (z i)) (ab_2 (z i)))).mono ?_
              rintro e w8 ⟨g2, rfl, G⟩
              have A8 := hide (bel_into G.bel (bel_a1 w8 (.cells #[.int .i64 W, .int .i64 H, .slice (some ⟨g2, 0, none⟩) j j] 24)))
              have X8 := hide ((unhide X6).below (unhide A8) (unhide X6).lt)
              have N8 := hide ((unhide N6).below (unhide A8) (unhide N6).lt)
              have Y8 := hide ((unhide Y6).below (unhide A8) (unhide Y6).lt)
              have IN8 := hide ((unhide IN6).below (unhide A8))
              have B8 := hide (bel_into (unhide B6) (unhide A8))
              have R8 := hide ((unhide R6).below (unhide A8))
              have S8 := hide (G.row.below (bel_a1 w8 (.cells #[.int .i64 W, .int .i64 H, .slice (some ⟨g2, 0, none⟩) j j] 24)))
              have V8 := hide (Box.made w8 24 #[.int .i64 W, .int .i64 H, .slice (some ⟨g2, 0, none⟩) j j])
              clear G A8 d0 d1 d2 hd6 X6 N6 Y6 IN6 EB6 B6 R6
              go_upto_region 16 with fail
              generalize w8.heap.size = gy at *
              generalize w8.alloc (.cells #[.int .i64 W, .int .i64 H, .slice (some ⟨g2, 0, none⟩) j j] 24) = w9 at *
              go_wp2_with fail
              refine (ans8 _).mono ?_
              rintro e w10 ⟨rfl, b10⟩
              have X10 := hide ((unhide X8).below b10 (unhide X8).lt)
              have N10 := hide ((unhide N8).below b10 (unhide N8).lt)
              have Y10 := hide ((unhide Y8).below b10 (unhide Y8).lt)
              have V10 := hide ((unhide V8).below b10 (unhide V8).lt)
              have IN10 := hide ((unhide IN8).below b10)
              have B10 := hide (bel_into (unhide B8) b10)
              have R10 := hide ((unhide R8).below b10)
              have S10 := hide ((unhide S8).below b10)
              clear b10 X8 N8 Y8 V8 IN8 B8 R8 S8
              obtain ⟨⟨c0, c1, c2⟩, _⟩ := box_cells (unhide X10)
              obtain ⟨⟨d0, d1, d2⟩, _⟩ := box_cells (unhide Y10)
              have hm10 := (unhide X10).lt
              have hy10 := (unhide Y10).lt
              go_wp2_with fail
              refine (rsame12 W H j cap0_2 (unhide R10).pixs ((unhide I0).px.below (unhide B10)) (by omega)).mono ?_
              rintro e w11 ⟨rfl, b11⟩
              have N11 := hide ((unhide N10).below b11 (unhide N10).lt)
              have V11 := hide ((unhide V10).below b11 (unhide V10).lt)
              have IN11 := hide ((unhide IN10).below b11)
              have B11 := hide (bel_into (unhide B10) b11)
              have S11 := hide ((unhide S10).below b11)
              clear b11 c0 c1 c2 d0 d1 d2 hm10 hy10
              obtain ⟨⟨c0, c1, c2⟩, _⟩ := box_cells (unhide N11)
              obtain ⟨⟨d0, d1, d2⟩, _⟩ := box_cells (unhide V11)
              have hm11 := (unhide N11).lt
              have hy11 := (unhide V11).lt
              go_wp2_with fail
              refine (rsame12 W H j cz (unhide S11).pixs (unhide IN11).px (by omega)).mono ?_
              rintro e w12 ⟨rfl, b12⟩
              have B12 := hide (bel_into (unhide B11) b12)
              clear b12
              go_wp2
              go_ret
              exact ⟨rfl, unhide B12⟩
  · have GD := hide (fun w => rgood a0_0 a0_1 a0_2 len0_2 cap0_2 false w hg)
    clear w0_2 hg
    go_enter Try.func5, Try.ntmps5
    go_wp2_with fail
    refine (unhide GD _).mono ?_
    rintro e w1 ⟨rfl, b1⟩
    have B1 := hide (bel_into (unhide BL) b1)
    have X1 := hide ((unhide BR).1.below b1 (unhide BR).1.lt)
    have L1 := hide ((unhide BR).2.below b1 (unhide BR).2.lt)
    obtain ⟨⟨c0, c1, c2⟩, _⟩ := box_cells (unhide X1)
    have hm1 := (unhide X1).lt
    clear b1 BL BR
    go_wp2_with fail
    refine (ans8 _).mono ?_
    rintro e w9 ⟨rfl, b9⟩
    have B9 := hide (bel_into (unhide B1) b9)
    clear b9
    go_wp2
    go_ret
    exact ⟨rfl, unhide B9⟩

set_option maxRecDepth 100000 in
theorem lifted (os : Os) (started : os.Started) (H : Type) (enc : TypeId × Value → H) :
    ReturnsInHanded {} Try.checked os 5 .any (Rows.crossNothingSpec.pre6 enc Try.prog Try.f5 Rows.crossNothingRow.domain false) (Rows.crossNothingSpec.post enc Try.prog Try.f5 false true false false) := by
  refine returnsInHanded_of_change (C := Try.checked) own started (by kernel_rfl) Try.func5
    (ChangeSpec.witness6 (enc := enc) (C := Try.checked) false ⟨#[], #[.agg #[.int .i64 0, .int .i64 0, .slice none 0 0], .agg #[.int .i8 0, .int .i8 0, .int .i8 0]], []⟩ 8 (by kernel_rfl) (by kernel_rfl) (by kernel_rfl) (by kernel_rfl)) ?_
  intro W base args ds gs before hval0 hW hcnd _
  have hval : ∀ (j : Nat) t v, Try.f5.params[j]? = some t → args[j]? = some v → Value.okWide Try.prog W .any base t v := hval0
  have hW' := hW
  obtain ⟨p, q, hA0, hV, rfl, hfz, hnd⟩ := hW
  have hA : DataW.TrodAll enc Try.prog W 0 (fun _ => true) true Try.f5.params.toList args.toList ds p := hA0
  rw [Try.params5] at hA hval
  obtain ⟨v0, vs0, d0, ds0, p0, q0, hargs, rfl, rfl, h0, r0⟩ := trodAll_cons hA
  obtain ⟨v1, vs1, d1, ds1, p1, q1, rfl, rfl, rfl, h1, r1⟩ := trodAll_cons r0
  obtain ⟨rfl, rfl, rfl⟩ := trodAll_nil r1
  obtain rfl : args = #[v0, v1] := by cases args; simp_all
  obtain ⟨rfl, rfl⟩ := trodVars_none hV
  have k0 := h0
  have lt0 : ∀ x ∈ p0, x.block < W.heap.size := by obtain ⟨m, hm⟩ := k0; exact DataW.trod_lt m _ _ _ hm
  obtain ⟨c0_0, c0_1, c0_2, y0_0, y0_1, y0_2, m0, rfl, _, _, hy0_0, hy0_1, hy0_2⟩ := Go.Joins.open_agg3 Try.underlying24 (by kernel_rfl) (by kernel_rfl) (hval 0 24 v0 rfl rfl) h0
  obtain ⟨a0_0, e0_0, _, w0_0⟩ := DataW.trod_int Try.underlying3 hy0_0
  simp only [List.cons.injEq, and_true] at e0_0
  subst e0_0
  obtain ⟨a0_1, e0_1, _, w0_1⟩ := DataW.trod_int Try.underlying3 hy0_1
  simp only [List.cons.injEq, and_true] at e0_1
  subst e0_1
  obtain ⟨a0_2, len0_2, cap0_2, e0_2⟩ := Go.Joins.slice_form Try.underlying22 hy0_2
  simp only [List.cons.injEq, and_true] at e0_2
  subst e0_2
  obtain ⟨z0_2, w0_2⟩ : ∃ zs, IsRow .u32 W a0_2 len0_2 cap0_2 zs := by
    rcases open_ints Try.underlying22 Try.underlying32 (by kernel_rfl) hy0_2 with ⟨hcs, _⟩ | ⟨x, l, c, zs, hcs, _, hl, hm, hz, _, hcell, hwz⟩
    · simp at hcs
      obtain ⟨rfl, rfl, rfl⟩ := hcs
      exact ⟨[], .inl ⟨rfl, rfl, rfl, rfl⟩⟩
    · simp at hcs
      obtain ⟨rfl, rfl, rfl⟩ := hcs
      exact ⟨zs, .inr ⟨_, rfl, hl, hm, by simpa using hz, hcell, hwz⟩⟩
  have k1 := h1
  have lt1 : ∀ x ∈ p1, x.block < W.heap.size := by obtain ⟨m, hm⟩ := k1; exact DataW.trod_lt m _ _ _ hm
  obtain ⟨c1_0, c1_1, c1_2, y1_0, y1_1, y1_2, m1, rfl, _, _, hy1_0, hy1_1, hy1_2⟩ := Go.Joins.open_agg3 Try.underlying37 (by kernel_rfl) (by kernel_rfl) (hval 1 37 v1 rfl rfl) h1
  obtain ⟨a1_0, e1_0, _, w1_0⟩ := DataW.trod_int Try.underlying35 hy1_0
  simp only [List.cons.injEq, and_true] at e1_0
  subst e1_0
  obtain ⟨a1_1, e1_1, _, w1_1⟩ := DataW.trod_int Try.underlying35 hy1_1
  simp only [List.cons.injEq, and_true] at e1_1
  subst e1_1
  obtain ⟨a1_2, e1_2, _, w1_2⟩ := DataW.trod_int Try.underlying35 hy1_2
  simp only [List.cons.injEq, and_true] at e1_2
  subst e1_2
  clear hA0 hval0
  refine (walk a0_0 a0_1 a0_2 len0_2 cap0_2 z0_2 a1_0 a1_1 a1_2 W w0_0 w0_1 w0_2 w1_0 w1_1 w1_2).mono fun e W' ⟨he, bel⟩ => ?_
  subst he
  exact ⟨_, rfl, _, _, _, [], _, [], hW', trodAll_mk1 (shut_bool Try.underlying4 _), (trodAll_cons_mk (Below.trod laidOut (by kernel_rfl) (of_decide_eq_true (by kernel_rfl)) k0 bel lt0) (trodAll_cons_mk (Below.trod laidOut (by kernel_rfl) (of_decide_eq_true (by kernel_rfl)) k1 bel lt1) trodAll_mk0)), rfl, bel.frame _, fun h => by cases h⟩

theorem over : Rows.crossNothingRow.holds Try.pinned (OpenSpec.ofChange Rows.crossNothingSpec) :=
  OpenClaim.holds_of_wide 5 Try.f5 rfl rfl rfl rfl rfl rfl rfl ⟨rfl, rfl, rfl, rfl, rfl⟩ rfl rfl rfl rfl rfl (by kernel_rfl) Try.func5 (by kernel_rfl)
    (of_decide_eq_true (by kernel_rfl)) (by unfold Func.isWrapper; first | (rw [if_pos (by decide +kernel)]; kernel_rfl) | (rw [if_neg (by decide +kernel)]; exact ⟨rfl, rfl⟩))
    (fun os started H enc _ => lifted os started H enc)

/-- The statement. -/
theorem proved : Rows.CrossNothingSaid := over
#print axioms proved
end Go.Proofs.Ytejfjocoadfahaa.crossNothing
