/-
  What is proved: Of a picture of one colour Forth leaves nothing but the first pixel less Black, by each mode from 1 to 13: the Go function LeanFlat of the statements of layer 13 returns true for all arguments.
  Conditions: none.
-/
import Derived.Test.YtnfokdcoelignaaRows
import Derived.Test.YtnfokdcoelignaaLAns
import Derived.Test.YtnfokdcoelignaaLRef
import Derived.Test.YtnfokdcoelignaaLGth
import Derived.WalkKit
import Derived.ProofKit
import Derived.OpenShut
import Derived.ShutString
import Derived.ChangeOld
import Derived.Below
namespace Go.Proofs.Ytnfokdcoelignaa.leanFlat
open Go.ChangeShapes Go.WideShapes Go.ChangeAt Go.RowKit
open Go.Proofs.Ytnfokdcoelignaa.Core Go.Proofs.Ytnfokdcoelignaa.PNum Go.Proofs.Ytnfokdcoelignaa.PFun Go.Proofs.Ytnfokdcoelignaa.PRfn Go.Proofs.Ytnfokdcoelignaa.PGoo Go.Proofs.Ytnfokdcoelignaa.GGue Go.Proofs.Ytnfokdcoelignaa.GImg Go.Proofs.Ytnfokdcoelignaa.GAro Go.Proofs.Ytnfokdcoelignaa.GAtt Go.Proofs.Ytnfokdcoelignaa.GCpy Go.Proofs.Ytnfokdcoelignaa.LBlk Go.Proofs.Ytnfokdcoelignaa.LMod Go.Proofs.Ytnfokdcoelignaa.LSnd Go.Proofs.Ytnfokdcoelignaa.LEch Go.Proofs.Ytnfokdcoelignaa.LNum Go.Proofs.Ytnfokdcoelignaa.LFor Go.Proofs.Ytnfokdcoelignaa.LAns Go.Proofs.Ytnfokdcoelignaa.LRef Go.Proofs.Ytnfokdcoelignaa.LGth
open Go.ChangeMaps (open_string shut_string)
set_option linter.unusedVariables false      -- a walk need not use every 'w<i>' (that an integer argument fits its kind)

theorem own : ownKnob Try.prog.godebug = none := by kernel_rfl

open Go.Sort
theorem flatF {W H g n r mb : Nat} {p : Nat} {md : Int} (cap cm : Nat) {w : World} (I : Img w W H g 0 n (fun _ => p)) (M : Mds w (some ⟨mb, 0, none⟩) r (fun _ => md)) (hl : r ≤ 1000000) (hn : n ≤ 1000000) (hs : soV W H n (3 : Nat) r (fun _ => md) = true) :
    Calls Try.prog 8 #[.agg #[.int .i64 W, .int .i64 H, .slice (some ⟨g, 0, none⟩) n cap], .int .i64 3, .slice (some ⟨mb, 0, none⟩) r cm] w fun e w' =>
      ∃ g', e = .returned (.tuple #[.agg #[.int .i64 W, .int .i64 H, .slice (some ⟨g', 0, none⟩) n n], .int .i64 0]) ∧ Gives w n g' (foV W 3 (fun _ => md) (fun _ => p)) w' :=
  forth8 (k := 3) cap cm I M hl hn hs
theorem blk3 (n : Nat) (w : World) (h1 : n ≤ 16384) : Calls Try.prog 16 #[.int .i64 n, .int .i64 3] w fun e w' => e = .returned (.int .i64 (bl n 3)) ∧ w' = w := rblk16 n 3 w h1 (by omega)
set_option maxRecDepth 20000 in
set_option maxHeartbeats 1000000 in
theorem walk (a0 : Int) (a1 : Int) (a2 : Int) (a3 : Int) (w0 : (Lit.int .u8 a0).wf = true) (w1 : (Lit.int .u8 a1).wf = true) (w2 : (Lit.int .u8 a2).wf = true) (w3 : (Lit.int .u32 a3).wf = true) (w : World) :
    Calls Try.prog 6 #[.int .u8 a0, .int .u8 a1, .int .u8 a2, .int .u32 a3] w fun e w' => e = .returned (.bool true) ∧ Below w.heap.size w w' := by
  obtain ⟨x0, x1⟩ := bounds_u8 w0
  obtain ⟨y0, y1⟩ := bounds_u8 w1
  obtain ⟨m0, m1⟩ := bounds_u8 w2
  obtain ⟨p0, p1⟩ := bounds_u32 w3
  clear w0 w1 w2 w3
  obtain ⟨p, rfl⟩ := Int.eq_ofNat_of_zero_le p0
  have hp : Hid (p < 4294967296) := hide (by omega)
  obtain ⟨W, hWe⟩ : ∃ W : Nat, a0 % 20 + 1 = (W : Int) := ⟨(a0 % 20 + 1).toNat, by omega⟩
  obtain ⟨H, hHe⟩ : ∃ H : Nat, a1 % 20 + 1 = (H : Int) := ⟨(a1 % 20 + 1).toNat, by omega⟩
  obtain ⟨md, hme⟩ : ∃ md : Int, 1 + a2 % 13 = md := ⟨_, rfl⟩
  have hW1 : 1 ≤ W := by omega
  have hW2 : W ≤ 20 := by omega
  have hH1 : 1 ≤ H := by omega
  have hH2 : H ≤ 20 := by omega
  have MD1 : Hid (1 ≤ md ∧ md ≤ 13) := hide (by omega)
  obtain ⟨n, hn⟩ : ∃ n, n = W * H := ⟨_, rfl⟩
  have hn0 : 1 ≤ n := by rw [hn]; exact Nat.mul_pos hW1 hH1
  have hn1 : n ≤ 400 := by rw [hn]; exact Nat.mul_le_mul hW2 hH2
  have MW : IntKind.i64.wrap ((W : Int) * (H : Int)) = (n : Int) := by rw [hn]; exact prod_wrap (by omega) (by omega)
  have HN := hide hn
  clear hn p0 p1
  obtain ⟨i0, hi0, hz0, hz1, hz2⟩ := info_parts GCpy.info22
  obtain ⟨j0, hj0, yz0, yz1, yz2⟩ := info_parts LGth.info3
  go_enter Try.func6, Try.ntmps6
  go_wp2
  go_loopw [10] (fun i wr => ∃ (j : Nat) (v : Value), j ≤ n ∧ i = .int .i64 j ∧ Pga w W H (fun _ => p) j v wr) (fun i _ => n - (intOf i).toNat)
  case atStart => exact ⟨0, _, Nat.zero_le _, rfl, Pga.start w W H _⟩
  case round =>
    obtain ⟨j, v, hj, rfl, P⟩ := hrel
    have PG := hide P
    by_cases hlt : j < n
    · have hlt' : (j : Int) < (n : Int) := by omega
      obtain ⟨va, vc, rfl⟩ := own_slice P.own
      obtain ⟨⟨c0, c1, c2⟩, f0, f1, f2⟩ := box_cells P.box
      have hb := P.box.lt
      clear P
      go_wp2_with (first | (at_builtin; refine wpList_append_own _ rfl (.tmp 36) (.tmp 38) 22 rfl (w.heap.size + 1) 38 i0 (.int .u32 0) 1 4 Try.underlying22 hi0 hz0 hz1 hz2 rfl (by decide) _ j (pcells (fun _ => p) j) rfl ((unhide PG).own.alloc _) ⟨wr.heap.size, 0, none⟩ 1 1 [.int .u32 p] rfl rfl (cell_one_new _ _ _) (one_one _ _) (by unfold maxLen; omega) (by omega) (by have := (unhide PG).box.lt; simp; omega) ?_; intro v1 w1 own1 gr1 _; have B1 := (unhide PG).box1 gr1; obtain ⟨⟨c01, c11, c21⟩, f01, f11, f21⟩ := box_cells B1; have PA := hide ((unhide PG).app own1 gr1 rfl); have hb1 := B1.lt; obtain ⟨ua, uc, rfl⟩ := own_slice own1; clear own1 gr1 B1) | fail)
      go_roundw
      case rel => exact ⟨j + 1, _, by omega, by go_num, unhide PA⟩
      case measure => simp [intOf]; omega
    · obtain rfl : j = n := by omega
      have hnl : ¬ (j : Int) < (j : Int) := by omega
      obtain ⟨g, cap, rfl, pw, hg1, hg2⟩ := own_pow P.own (by omega)
      obtain ⟨⟨c0, c1, c2⟩, f0, f1, f2⟩ := box_cells P.box
      have hb := P.box.lt
      have IM : Hid (Img wr W H g 0 j (fun _ => p)) := hide ⟨by omega, by omega, unhide HN, pw.pixs⟩
      have BW := hide P.bel
      have BX := hide P.box
      have Q1 := hide (fun w => blk3 W w (by omega))
      have Q2 := hide (fun w => blk3 H w (by omega))
      clear P pw hg1 PG
      have hbW := bl_le W 3
      have hbH := bl_le H 3
      have hpW := bl_pos 3 (show 0 < W by omega)
      have hpH := bl_pos 3 (show 0 < H by omega)
      obtain ⟨r, hr⟩ : ∃ r, r = bl W 3 * bl H 3 := ⟨_, rfl⟩
      have hr0 : 1 ≤ r := by rw [hr]; exact Nat.mul_pos hpW hpH
      have hr1 : r ≤ 400 := by rw [hr]; exact Nat.mul_le_mul (show bl W 3 ≤ 20 by omega) (show bl H 3 ≤ 20 by omega)
      have M2 : IntKind.i64.wrap ((bl W 3 : Int) * (bl H 3 : Int)) = (r : Int) := by rw [hr]; exact prod_wrap (by omega) (by omega)
      have HR := hide hr
      clear hr hbW hbH hpW hpH
      go_wp2_with fail
      go_quiet ((go_at_call 16; first | (with_reducible exact Calls.quiet_of_same (unhide Q1 _)) | (with_reducible exact Calls.quiet_of_same (unhide Q2 _))))
      rename_i nq
      have BQ := hide (drewN_below wr nq)
      clear c0 c1 c2 f0 f1 f2
      generalize wr.drewN nq = wq at *
      go_wp2
      go_loopw [11, 13] (fun v i wr => ∃ q : Nat, q ≤ r ∧ i = .int .i64 q ∧ Gth wq wr v (fun _ => md) q) (fun _ i _ => r - (intOf i).toNat)
      case atStart => exact ⟨0, Nat.zero_le _, rfl, Gth.start wq _⟩
      case round =>
        obtain ⟨q, hq, rfl, gth⟩ := hrel
        have GT := hide gth
        by_cases hlq : q < r
        · have hlq' : (q : Int) < (r : Int) := by omega
          clear gth
          go_wp2_with (first | (at_builtin; refine wpList_append_own _ rfl (.tmp 53) (.tmp 58) 25 rfl wq.heap.size 3 j0 (.int .i64 0) 1 8 Try.underlying25 hj0 yz0 yz1 yz2 rfl (by decide) _ q (LGth.cells (fun _ => md) q) rfl ((unhide GT).own.alloc _) ⟨wr.heap.size, 0, none⟩ 1 1 [.int .i64 md] rfl rfl (cell_one_new _ _ _) (one_one _ _) (by unfold maxLen; omega) (by omega) (by have := (unhide GT).bel.size; simp; omega) ?_; intro v1 w1 own1 gr1 _; have GA1 := hide ((unhide GT).app own1 gr1 rfl); clear own1 gr1) | fail)
          go_roundw
          case rel => exact ⟨q + 1, by omega, by go_num, unhide GA1⟩
          case measure => simp [intOf]; omega
        · obtain rfl : q = r := by omega
          have hnq : ¬ (q : Int) < (q : Int) := by omega
          obtain ⟨mb, cm, rfl, mds⟩ := gth.mds (by omega)
          have B2 := hide (bel_into (bel_into (unhide BW) (unhide BQ)) gth.bel)
          have X2 := hide ((unhide BX).below (bel_into (unhide BQ) gth.bel) (unhide BX).lt)
          have FO := hide (flatF cap cm ((unhide IM).below (bel_into (unhide BQ) gth.bel)) mds (by omega) (by omega) (so_yes (gd_mk hW1 (by omega) hH1 (by omega) (unhide HN)) (by omega) (by omega) (unhide HR) (mdB_yes fun _ _ => by have := unhide MD1; omega)))
          obtain ⟨⟨c0, c1, c2⟩, _⟩ := box_cells (unhide X2)
          have hb2 := (unhide X2).lt
          clear gth mds GT
          go_wp2_with fail
          refine (unhide FO).mono ?_
          rintro e w3 ⟨gx, rfl, G⟩
          have B3 := hide (bel_into (bel_into (unhide B2) G.bel) (bel_a1 w3 (.cells #[.int .i64 W, .int .i64 H, .slice (some ⟨gx, 0, none⟩) j j] 24)))
          have X3 := hide (((unhide X2).below G.bel (unhide X2).lt).alloc (.cells #[.int .i64 W, .int .i64 H, .slice (some ⟨gx, 0, none⟩) j j] 24))
          have Y3 := hide (Box.made w3 24 #[.int .i64 W, .int .i64 H, .slice (some ⟨gx, 0, none⟩) j j])
          have R3 := hide (G.row.below (bel_a1 w3 (.cells #[.int .i64 W, .int .i64 H, .slice (some ⟨gx, 0, none⟩) j j] 24)))
          clear G c0 c1 c2 FO hb2
          go_wp2_with fail
          generalize w3.alloc (.cells #[.int .i64 W, .int .i64 H, .slice (some ⟨gx, 0, none⟩) j j] 24) = wx at *
          generalize w3.heap.size = gb at *
          go_loopw [16] (fun i wr => ∃ q : Nat, 1 ≤ q ∧ q ≤ j ∧ i = .int .i64 q ∧ wr = wx) (fun i _ => j - (intOf i).toNat)
          case atStart => exact ⟨1, by omega, by omega, rfl, rfl⟩
          case round =>
            obtain ⟨t, ht1, ht2, rfl, rfl⟩ := hrel
            obtain ⟨⟨d0, d1, d2⟩, _⟩ := box_cells (unhide Y3)
            by_cases hlx : t < j
            · have hlx' : (t : Int) < (j : Int) := by omega
              have cx : wr.cell? ⟨gx, t, none⟩ = some (.int .u32 0) := by
                have h := (unhide R3 t hlx).1
                rw [fo_flat (unhide hp) (unhide MD1).1 (unhide MD1).2 (by omega) (by omega)] at h
                exact h
              go_wp2
              go_roundw
              case rel => exact ⟨t + 1, by omega, by omega, by go_num, by first | rfl | trivial⟩
              case measure => simp [intOf]; omega
            · obtain rfl : t = j := by omega
              have hnx : ¬ (t : Int) < (t : Int) := by omega
              obtain ⟨⟨e0, e1, e2⟩, _⟩ := box_cells (unhide X3)
              have cx : wr.cell? ⟨gx, 0, none⟩ = some (.int .u32 (subV p 4278190080)) := by
                have h := (unhide R3 0 (by omega)).1
                rw [fo_first] at h
                exact h
              have k0 := cell_regrown d0
              have k1 := cell_regrown d1
              have k2 := cell_regrown d2
              have l0 := cell_regrown e0
              have l1 := cell_regrown e1
              have l2 := cell_regrown e2
              have kx := cell_regrown cx
              have A7 : Hid (∀ d os, Calls Try.prog 7 #[] (grow (redrawn wr d) os) fun e w'' => e = .returned (.bool true) ∧ ∃ p : Regrown, w'' = grow (redrawn wr p.d) p.os) := hide fun d os => Calls.regrown_of (ans7 _)
              have A17 : Hid (∀ d os, Calls Try.prog 17 #[.int .u32 p, .int .u32 4278190080] (grow (redrawn wr d) os) fun e w'' => e = .returned (.int .u32 (subV p 4278190080)) ∧ ∃ p : Regrown, w'' = grow (redrawn wr p.d) p.os) := hide fun d os => Calls.regrown_of (rsub15 p 4278190080 _)
              generalize subV p 4278190080 = s at *
              go_wp2_with fail
              refine wp_region_quiet_below (by kernel_rfl) (by kernel_rfl) ?_
              repeat (go_big_quiet_step (first | (go_at_call 7; with_reducible exact unhide A7 _ _) | (go_at_call 17; with_reducible exact unhide A17 _ _)))
              refine wpQuiet_nil ?_
              intro _ hw'
              obtain ⟨⟨dq, osq⟩, hw''⟩ := hw'
              subst hw''
              go_wp2
              go_ret
              exact ⟨rfl, below_two (unhide B3) (below_regrown wr dq osq)⟩

/-! ### THE ROW's STEP: WRITTEN OUT: LEAVE IT -/
set_option maxRecDepth 100000 in
theorem lifted (os : Os) (started : os.Started) (H : Type) (enc : TypeId × Value → H) :
    ReturnsInHanded {} Try.checked os 6 .any (Rows.leanFlatSpec.pre6 enc Try.prog Try.f6 Rows.leanFlatRow.domain false) (Rows.leanFlatSpec.post enc Try.prog Try.f6 false true false false) := by
  refine returnsInHanded_of_change (C := Try.checked) own started (by kernel_rfl) Try.func6
    (ChangeSpec.witness6 (enc := enc) (C := Try.checked) false ⟨#[], #[.int .u8 0, .int .u8 0, .int .u8 0, .int .u32 0], []⟩ 8 (by kernel_rfl) (by kernel_rfl) (by kernel_rfl) (by kernel_rfl)) ?_
  intro W base args ds gs before hval0 hW hcnd _
  have hval : ∀ (j : Nat) t v, Try.f6.params[j]? = some t → args[j]? = some v → Value.okWide Try.prog W .any base t v := hval0
  have hW' := hW
  obtain ⟨p, q, hA0, hV, rfl, hfz, hnd⟩ := hW
  have hA : DataW.TrodAll enc Try.prog W 0 (fun _ => true) true Try.f6.params.toList args.toList ds p := hA0
  rw [Try.params6] at hA hval
  obtain ⟨v0, vs0, d0, ds0, p0, q0, hargs, rfl, rfl, h0, r0⟩ := trodAll_cons hA
  obtain ⟨v1, vs1, d1, ds1, p1, q1, rfl, rfl, rfl, h1, r1⟩ := trodAll_cons r0
  obtain ⟨v2, vs2, d2, ds2, p2, q2, rfl, rfl, rfl, h2, r2⟩ := trodAll_cons r1
  obtain ⟨v3, vs3, d3, ds3, p3, q3, rfl, rfl, rfl, h3, r3⟩ := trodAll_cons r2
  obtain ⟨rfl, rfl, rfl⟩ := trodAll_nil r3
  obtain rfl : args = #[v0, v1, v2, v3] := by cases args; simp_all
  obtain ⟨rfl, rfl⟩ := trodVars_none hV
  obtain ⟨a0, rfl, rfl, rfl, w0⟩ := open_int Try.underlying5 (hval 0 5 v0 rfl rfl) h0
  obtain ⟨a1, rfl, rfl, rfl, w1⟩ := open_int Try.underlying5 (hval 1 5 v1 rfl rfl) h1
  obtain ⟨a2, rfl, rfl, rfl, w2⟩ := open_int Try.underlying5 (hval 2 5 v2 rfl rfl) h2
  obtain ⟨a3, rfl, rfl, rfl, w3⟩ := open_int Try.underlying38 (hval 3 38 v3 rfl rfl) h3
  clear hA0 hval0
  refine (walk a0 a1 a2 a3 w0 w1 w2 w3 W).mono fun e W' ⟨he, bel⟩ => ?_
  subst he
  exact ⟨_, rfl, _, _, _, [], _, [], hW', trodAll_mk1 (shut_bool Try.underlying4 _), (trodAll_cons_mk (shut_int Try.underlying5 w0) (trodAll_cons_mk (shut_int Try.underlying5 w1) (trodAll_cons_mk (shut_int Try.underlying5 w2) (trodAll_cons_mk (shut_int Try.underlying38 w3) trodAll_mk0)))), rfl, bel.frame _, fun h => by cases h⟩

theorem over : Rows.leanFlatRow.holds Try.pinned (OpenSpec.ofChange Rows.leanFlatSpec) :=
  OpenClaim.holds_of_wide 6 Try.f6 rfl rfl rfl rfl rfl rfl rfl ⟨rfl, rfl, rfl, rfl, rfl⟩ rfl rfl rfl rfl rfl (by kernel_rfl) Try.func6 (by kernel_rfl)
    (of_decide_eq_true (by kernel_rfl)) (by unfold Func.isWrapper; first | (rw [if_pos (by decide +kernel)]; kernel_rfl) | (rw [if_neg (by decide +kernel)]; exact ⟨rfl, rfl⟩))
    (fun os started H enc _ => lifted os started H enc)

/-- ████ THE STATEMENT ████ -/
theorem proved : Rows.LeanFlatSaid :=
  over
#print axioms proved
end Go.Proofs.Ytnfokdcoelignaa.leanFlat
