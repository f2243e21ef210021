/-
  What is proved: An image that is packed by its own colours, and unpacked, is itself, and the argument is as it was: the Go function TableBack of the statements of layer 16 returns true for all arguments.
  Conditions: none.
-/
import Derived.Test.YtflmlbdcjjldgaaRows
import Derived.Test.YtflmlbdcjjldgaaTUse
import Derived.Test.YtflmlbdcjjldgaaLRef
import Derived.WalkKit
import Derived.ProofKit
import Derived.OpenShut
import Derived.ShutString
import Derived.ChangeOld
import Derived.Below
import Derived.Deep.Grids
import Derived.Lib.SmallJoins
namespace Go.Proofs.Ytflmlbdcjjldgaa.tableBack
open Go.ChangeShapes Go.WideShapes Go.ChangeAt Go.RowKit
open Go.Proofs.Ytflmlbdcjjldgaa.Core Go.Proofs.Ytflmlbdcjjldgaa.LBlk Go.Proofs.Ytflmlbdcjjldgaa.PNum Go.Proofs.Ytflmlbdcjjldgaa.PGoo Go.Proofs.Ytflmlbdcjjldgaa.Ims Go.Proofs.Ytflmlbdcjjldgaa.LRef Go.Proofs.Ytflmlbdcjjldgaa.TNum Go.Proofs.Ytflmlbdcjjldgaa.TPkn Go.Proofs.Ytflmlbdcjjldgaa.TSet Go.Proofs.Ytflmlbdcjjldgaa.TCol Go.Proofs.Ytflmlbdcjjldgaa.TPak Go.Proofs.Ytflmlbdcjjldgaa.TUnp Go.Proofs.Ytflmlbdcjjldgaa.TAns Go.Proofs.Ytflmlbdcjjldgaa.TFin Go.Proofs.Ytflmlbdcjjldgaa.TUse
open Go.ChangeMaps (open_string shut_string)
set_option linter.unusedVariables false

theorem own : ownKnob Try.prog.godebug = none := by kernel_rfl
theorem laidOut : laidOutB Try.prog = true := by kernel_rfl

/-- A slice of integers that came in: nil, or a row of cells, each fitting its kind. -/
def IsRow (k : IntKind) (w : World) (a : Option Addr) (len cap : Nat) (zs : List Int) : Prop :=
  (a = none ∧ len = 0 ∧ cap = 0 ∧ zs = []) ∨
  ∃ x, a = some x ∧ len ≤ cap ∧ cap ≤ maxLen ∧ zs.length = cap ∧ (∀ i, i < zs.length → w.cell? (x.add i) = some (.int k (zs.getD i 0))) ∧ ∀ n ∈ zs, (Lit.int k n).wf = true
/-- A slice of bools that came in. -/
def IsBools (w : World) (a : Option Addr) (len cap : Nat) (B : Nat → Bool) : Prop :=
  (a = none ∧ len = 0 ∧ cap = 0) ∨ ∃ x, a = some x ∧ len ≤ cap ∧ cap ≤ maxLen ∧ ∀ i, i < cap → w.cell? (x.add i) = some (.bool (B i))
open Go.Sort
set_option maxRecDepth 20000 in
set_option maxHeartbeats 1000000 in
theorem walk (a0_0 : Int) (a0_1 : Int) (a0_2 : Option Addr) (len0_2 cap0_2 : Nat) (z0_2 : List Int) (w : World) (w0_0 : (Lit.int .i64 a0_0).wf = true) (w0_1 : (Lit.int .i64 a0_1).wf = true) (w0_2 : IsRow .u32 w a0_2 len0_2 cap0_2 z0_2) :
    Calls Try.prog 5 #[.agg #[.int .i64 a0_0, .int .i64 a0_1, .slice a0_2 len0_2 cap0_2]] w fun e w' => e = .returned (.bool true) ∧ Below w.heap.size w w' := by
  have BL := hide (bel_a1 w (.cells #[.int .i64 a0_0, .int .i64 a0_1, .slice a0_2 len0_2 cap0_2] 24))
  have BX := hide (Box.made w 24 #[.int .i64 a0_0, .int .i64 a0_1, .slice a0_2 len0_2 cap0_2])
  clear w0_0 w0_1
  by_cases hbig : 2000 < len0_2
  · clear w0_2
    go_enter Try.func5, Try.ntmps5
    go_wp2_with fail
    refine (ans8 _).mono ?_
    rintro e w9 ⟨rfl, b9⟩
    have B9 := hide (bel_into (unhide BL) b9)
    clear b9
    go_wp2
    go_ret
    exact ⟨rfl, unhide B9⟩
  · have hsm : len0_2 ≤ 2000 := by omega
    clear hbig
    rcases Bool.eq_false_or_eq_true (gdV a0_0 a0_1 len0_2) with hg | hg
    · obtain ⟨b, off, z, W, H, rfl, rfl, rfl, I, hW1, hH1, zb⟩ := img_of w0_2 hg
      obtain ⟨n, hne⟩ : ∃ n, n = len0_2 := ⟨_, rfl⟩
      subst hne
      have I0 := hide I
      have ZB := hide zb
      have ltb : b < w.heap.size := I.px.lt (by rw [I.hn]; exact Nat.mul_pos hW1 hH1)
      by_cases hl : (ds z n).length ≤ 256
      · have K := hide (col_yes cap0_2 ((unhide I0).below (unhide BL)) zb hW1 hH1 (by omega) hl)
        have L0 := ct_pos (z := z) (n := n) (by rw [I.hn]; exact Nat.mul_pos hW1 hH1)
        have NM := hide (nm_ct z n)
        have CL := hide (ct_lt zb)
        clear I zb hg w0_2
        obtain ⟨L, hL⟩ : ∃ L, L = (ds z n).length := ⟨_, rfl⟩
        rw [← hL] at K L0 NM CL hl
        clear hL
        go_enter Try.func5, Try.ntmps5
        go_wp2_with fail
        refine (unhide K).mono ?_
        rintro e w1 ⟨g1, cap1, rfl, p1, b1⟩
        have X1 := hide ((unhide BX).below b1 (unhide BX).lt)
        have B1 := hide (bel_into (unhide BL) b1)
        have P1 := hide p1
        have K2 := hide (pak_yes cap0_2 cap1 ((unhide I0).below (unhide B1)) (unhide ZB) hW1 hH1 (by omega) p1 (unhide CL) L0 hl (unhide NM))
        obtain ⟨⟨c0, c1, c2⟩, _⟩ := box_cells (unhide X1)
        clear p1 b1 K BX BL
        go_wp2_with fail
        refine (unhide K2).mono ?_
        rintro e w2 ⟨g2, rfl, gv⟩
        obtain ⟨wd, hwd⟩ : ∃ wd, wd = bl W (bv L) := ⟨_, rfl⟩
        have hb3 : bv L ≤ 3 := bv_le _
        have hmn : n = W * H := (unhide I0).hn
        have wd1 : wd ≤ W := by rw [hwd]; exact bl_le W _
        have wd0 : 1 ≤ wd := by rw [hwd]; exact bl_pos _ hW1
        have W16 : W ≤ 16384 := (unhide I0).hW
        have H16 : H ≤ 16384 := (unhide I0).hH
        have NN : wd * H ≤ n := by rw [hmn]; exact Nat.mul_le_mul_right H wd1
        have row0 : Pow w2 g2 (wd * H) (pk (ct z n) L z W (bv L) n) := by rw [hwd]; exact gv.row
        rw [← hwd]
        have X2 := hide (((unhide X1).below gv.bel (unhide X1).lt).alloc (.cells #[.int .i64 wd, .int .i64 H, .slice (some ⟨g2, 0, none⟩) (wd * H) (wd * H)] 24))
        have Y2 := hide (Box.made w2 24 #[.int .i64 wd, .int .i64 H, .slice (some ⟨g2, 0, none⟩) (wd * H) (wd * H)])
        have A2 := bel_a1 w2 (.cells #[.int .i64 wd, .int .i64 H, .slice (some ⟨g2, 0, none⟩) (wd * H) (wd * H)] 24)
        have R3 := hide (row0.below A2)
        have P3 := hide (((unhide P1).below gv.bel).below A2)
        have B3 := hide (bel_into (bel_into (unhide B1) gv.bel) A2)
        have UB := hide (show ∀ i, i < W * H → uv (ct z n) L (pk (ct z n) L z W (bv L) n) wd (bv L) W i = z i by rw [hwd, hmn]; exact uv_back hW1 hl (by rw [← hmn]; exact unhide NM))
        have HWD := hide hwd
        clear gv row0 A2 c0 c1 c2 X1 B1 P1 K2 hwd
        go_upto_region 7 with fail
        obtain ⟨⟨c0, c1, c2⟩, _⟩ := box_cells (unhide X2)
        obtain ⟨⟨x0c, x1c, x2c⟩, _⟩ := box_cells (unhide Y2)
        have lg2 : g2 < w2.heap.size + 1 := by have := lt_of_cell ((unhide R3) 0 (Nat.mul_pos wd0 hH1)).1; simpa using this
        generalize w2.heap.size = gx at *
        generalize w2.alloc (.cells #[.int .i64 wd, .int .i64 H, .slice (some ⟨g2, 0, none⟩) (wd * H) (wd * H)] 24) = w3 at *
        have K3 := hide (unpack19 (W := wd) (H := H) (x := W) (b := g2) (off := 0) (m := wd * H) (tb := g1) (tq := 0) (n := L) (wd * H) cap1 (img_own (Nat.le_trans wd1 W16) H16 rfl (unhide R3)) wd0 hH1 (by omega) (unhide P3).pixs L0 hl hW1 W16 (unhide HWD))
        have HMN := hide hmn
        have HNN := hide NN
        clear hmn NN
        go_wp2_with fail
        refine (unhide K3).mono ?_
        rintro e w4 ⟨g3, rfl, gv⟩
        have hmn := unhide HMN
        have X4 := hide (((unhide X2).below gv.bel (unhide X2).lt).alloc (.cells #[.int .i64 W, .int .i64 H, .slice (some ⟨g3, 0, none⟩) (W * H) (W * H)] 24))
        have Y4 := hide (((unhide Y2).below gv.bel (unhide Y2).lt).alloc (.cells #[.int .i64 W, .int .i64 H, .slice (some ⟨g3, 0, none⟩) (W * H) (W * H)] 24))
        have V4 := hide (Box.made w4 24 #[.int .i64 W, .int .i64 H, .slice (some ⟨g3, 0, none⟩) (W * H) (W * H)])
        have A4 := bel_a1 w4 (.cells #[.int .i64 W, .int .i64 H, .slice (some ⟨g3, 0, none⟩) (W * H) (W * H)] 24)
        have R4 := hide ((gv.row.below A4).congr (unhide UB))
        have B4 := hide (bel_into (bel_into (unhide B3) gv.bel) A4)
        rw [← hmn] at X4 Y4 V4 R4 B4 ⊢
        clear gv A4 c0 c1 c2 x0c x1c x2c X2 Y2 R3 P3 B3 K3 hmn
        go_upto_region 8 with fail
        generalize w4.heap.size = gy at *
        generalize w4.alloc (.cells #[.int .i64 W, .int .i64 H, .slice (some ⟨g3, 0, none⟩) n n] 24) = w5 at *
        go_wp2_with fail
        refine (ans8 _).mono ?_
        rintro e w6 ⟨rfl, b6⟩
        have B6 := hide (bel_into (unhide B4) b6)
        have X6 := hide ((unhide X4).below b6 (unhide X4).lt)
        have Y6 := hide ((unhide Y4).below b6 (unhide Y4).lt)
        have V6 := hide ((unhide V4).below b6 (unhide V4).lt)
        have R6 := hide ((unhide R4).below b6)
        have SM := hide (rsame12 W H n cap0_2 (unhide R6).pixs ((unhide I0).below (unhide B6)).px (by omega))
        obtain ⟨⟨c0, c1, c2⟩, _⟩ := box_cells (unhide X6)
        obtain ⟨⟨x0c, x1c, x2c⟩, _⟩ := box_cells (unhide Y6)
        obtain ⟨⟨v0c, v1c, v2c⟩, _⟩ := box_cells (unhide V6)
        clear b6 X4 Y4 V4 R4 B4
        go_wp2_with fail
        refine (unhide SM).mono ?_
        rintro e w7 ⟨rfl, b7⟩
        have B7 := hide (bel_into (unhide B6) b7)
        have c2' := ((box_cells ((unhide X6).below b7 (unhide X6).lt)).1).2.2
        have x2' := ((box_cells ((unhide Y6).below b7 (unhide Y6).lt)).1).2.2
        have NI : ((wd * H : Nat) : Int) ≤ (n : Int) := by have := unhide HNN; omega
        obtain ⟨N, hN⟩ : ∃ N, N = wd * H := ⟨_, rfl⟩
        rw [← hN] at x2' NI ⊢
        clear b7 SM c0 c1 c2 x0c x1c x2c v0c v1c v2c hN
        go_wp2
        go_ret
        exact ⟨rfl, unhide B7⟩
      · have K := hide (col_no cap0_2 ((unhide I0).below (unhide BL)) zb hW1 hH1 (by omega) hl)
        clear I zb hg w0_2
        go_enter Try.func5, Try.ntmps5
        go_wp2_with fail
        refine (unhide K).mono ?_
        rintro e w1 ⟨rfl, b1⟩
        have B1 := hide (bel_into (unhide BL) b1)
        clear b1 K
        go_wp2_with fail
        refine (ans8 _).mono ?_
        rintro e w9 ⟨rfl, b9⟩
        have B9 := hide (bel_into (unhide B1) b9)
        clear b9
        go_wp2
        go_ret
        exact ⟨rfl, unhide B9⟩
    · have K := hide (fun w => colors9_no (W := a0_0) (H := a0_1) a0_2 len0_2 cap0_2 w hg)
      clear hg w0_2
      go_enter Try.func5, Try.ntmps5
      go_wp2_with fail
      refine (unhide K _).mono ?_
      rintro e w1 ⟨rfl, b1⟩
      have B1 := hide (bel_into (unhide BL) b1)
      clear b1 K
      go_wp2_with fail
      refine (ans8 _).mono ?_
      rintro e w9 ⟨rfl, b9⟩
      have B9 := hide (bel_into (unhide B1) b9)
      clear b9
      go_wp2
      go_ret
      exact ⟨rfl, unhide B9⟩

set_option maxRecDepth 100000 in
theorem lifted (os : Os) (started : os.Started) (H : Type) (enc : TypeId × Value → H) :
    ReturnsInHanded {} Try.checked os 5 .any (Rows.tableBackSpec.pre6 enc Try.prog Try.f5 Rows.tableBackRow.domain false) (Rows.tableBackSpec.post enc Try.prog Try.f5 false true false false) := by
  refine returnsInHanded_of_change (C := Try.checked) own started (by kernel_rfl) Try.func5
    (ChangeSpec.witness6 (enc := enc) (C := Try.checked) false ⟨#[], #[.agg #[.int .i64 0, .int .i64 0, .slice none 0 0]], []⟩ 8 (by kernel_rfl) (by kernel_rfl) (by kernel_rfl) (by kernel_rfl)) ?_
  intro W base args ds gs before hval0 hW hcnd _
  have hval : ∀ (j : Nat) t v, Try.f5.params[j]? = some t → args[j]? = some v → Value.okWide Try.prog W .any base t v := hval0
  have hW' := hW
  obtain ⟨p, q, hA0, hV, rfl, hfz, hnd⟩ := hW
  have hA : DataW.TrodAll enc Try.prog W 0 (fun _ => true) true Try.f5.params.toList args.toList ds p := hA0
  rw [Try.params5] at hA hval
  obtain ⟨v0, vs0, d0, ds0, p0, q0, hargs, rfl, rfl, h0, r0⟩ := trodAll_cons hA
  obtain ⟨rfl, rfl, rfl⟩ := trodAll_nil r0
  obtain rfl : args = #[v0] := by cases args; simp_all
  obtain ⟨rfl, rfl⟩ := trodVars_none hV
  have k0 := h0
  have lt0 : ∀ x ∈ p0, x.block < W.heap.size := by obtain ⟨m, hm⟩ := k0; exact DataW.trod_lt m _ _ _ hm
  obtain ⟨c0_0, c0_1, c0_2, y0_0, y0_1, y0_2, m0, rfl, _, _, hy0_0, hy0_1, hy0_2⟩ := Go.Joins.open_agg3 Try.underlying24 (by kernel_rfl) (by kernel_rfl) (hval 0 24 v0 rfl rfl) h0
  obtain ⟨a0_0, e0_0, _, w0_0⟩ := DataW.trod_int Try.underlying3 hy0_0
  simp only [List.cons.injEq, and_true] at e0_0
  subst e0_0
  obtain ⟨a0_1, e0_1, _, w0_1⟩ := DataW.trod_int Try.underlying3 hy0_1
  simp only [List.cons.injEq, and_true] at e0_1
  subst e0_1
  obtain ⟨a0_2, len0_2, cap0_2, e0_2⟩ := Go.Joins.slice_form Try.underlying22 hy0_2
  simp only [List.cons.injEq, and_true] at e0_2
  subst e0_2
  obtain ⟨z0_2, w0_2⟩ : ∃ zs, IsRow .u32 W a0_2 len0_2 cap0_2 zs := by
    rcases open_ints Try.underlying22 Try.underlying31 (by kernel_rfl) hy0_2 with ⟨hcs, _⟩ | ⟨x, l, c, zs, hcs, _, hl, hm, hz, _, hcell, hwz⟩
    · simp at hcs
      obtain ⟨rfl, rfl, rfl⟩ := hcs
      exact ⟨[], .inl ⟨rfl, rfl, rfl, rfl⟩⟩
    · simp at hcs
      obtain ⟨rfl, rfl, rfl⟩ := hcs
      exact ⟨zs, .inr ⟨_, rfl, hl, hm, by simpa using hz, hcell, hwz⟩⟩
  clear hA0 hval0
  refine (walk a0_0 a0_1 a0_2 len0_2 cap0_2 z0_2 W w0_0 w0_1 w0_2).mono fun e W' ⟨he, bel⟩ => ?_
  subst he
  exact ⟨_, rfl, _, _, _, [], _, [], hW', trodAll_mk1 (shut_bool Try.underlying4 _), (trodAll_cons_mk (Below.trod laidOut (by kernel_rfl) (of_decide_eq_true (by kernel_rfl)) k0 bel lt0) trodAll_mk0), rfl, bel.frame _, fun h => by cases h⟩

theorem over : Rows.tableBackRow.holds Try.pinned (OpenSpec.ofChange Rows.tableBackSpec) :=
  OpenClaim.holds_of_wide 5 Try.f5 rfl rfl rfl rfl rfl rfl rfl ⟨rfl, rfl, rfl, rfl, rfl⟩ rfl rfl rfl rfl rfl (by kernel_rfl) Try.func5 (by kernel_rfl)
    (of_decide_eq_true (by kernel_rfl)) (by unfold Func.isWrapper; first | (rw [if_pos (by decide +kernel)]; kernel_rfl) | (rw [if_neg (by decide +kernel)]; exact ⟨rfl, rfl⟩))
    (fun os started H enc _ => lifted os started H enc)

/-- The statement. -/
theorem proved : Rows.TableBackSaid := over
#print axioms proved
end Go.Proofs.Ytflmlbdcjjldgaa.tableBack
