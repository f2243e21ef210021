/-
  What is proved: Alpha and green stay as they are, forth and back, and the argument is as it was: the Go function GreenStays of the statements of layer 15 returns true for all arguments.
  Conditions: none.
-/
import Derived.Test.YthnoamcgdidfmaaRows
import Derived.Test.YthnoamcgdidfmaaKAns
import Derived.WalkKit
import Derived.ProofKit
import Derived.OpenShut
import Derived.ShutString
import Derived.ChangeOld
import Derived.Below
import Derived.Deep.Grids
import Derived.Lib.SmallJoins
namespace Go.Proofs.Ythnoamcgdidfmaa.greenStays
open Go.ChangeShapes Go.WideShapes Go.ChangeAt Go.RowKit
open Go.Proofs.Ythnoamcgdidfmaa.Core Go.Proofs.Ythnoamcgdidfmaa.PNum Go.Proofs.Ythnoamcgdidfmaa.PPrt Go.Proofs.Ythnoamcgdidfmaa.PGoo Go.Proofs.Ythnoamcgdidfmaa.XNum Go.Proofs.Ythnoamcgdidfmaa.Ims Go.Proofs.Ythnoamcgdidfmaa.KNum Go.Proofs.Ythnoamcgdidfmaa.KFor Go.Proofs.Ythnoamcgdidfmaa.KAns
open Go.ChangeMaps (open_string shut_string)
set_option linter.unusedVariables false

theorem own : ownKnob Try.prog.godebug = none := by kernel_rfl
theorem laidOut : laidOutB Try.prog = true := by kernel_rfl

/-- A slice of integers that came in: nil, or a row of cells, each fitting its kind. -/
def IsRow (k : IntKind) (w : World) (a : Option Addr) (len cap : Nat) (zs : List Int) : Prop :=
  (a = none ∧ len = 0 ∧ cap = 0 ∧ zs = []) ∨
  ∃ x, a = some x ∧ len ≤ cap ∧ cap ≤ maxLen ∧ zs.length = cap ∧ (∀ i, i < zs.length → w.cell? (x.add i) = some (.int k (zs.getD i 0))) ∧ ∀ n ∈ zs, (Lit.int k n).wf = true
/-- A slice of bools that came in. -/
def IsBools (w : World) (a : Option Addr) (len cap : Nat) (B : Nat → Bool) : Prop :=
  (a = none ∧ len = 0 ∧ cap = 0) ∨ ∃ x, a = some x ∧ len ≤ cap ∧ cap ≤ maxLen ∧ ∀ i, i < cap → w.cell? (x.add i) = some (.bool (B i))
open Go.Sort
theorem rgood (x y : Int) (a : Option Addr) (n c : Nat) (b : Bool) (w : World) (h : gdV x y n = b) :
    Calls Try.prog 9 #[.agg #[.int .i64 x, .int .i64 y, .slice a n c]] w fun e w' => e = .returned (.bool b) ∧ Below w.heap.size w w' := h ▸ rgood25 x y a n c w
set_option maxRecDepth 20000 in
set_option maxHeartbeats 1000000 in
theorem walk (a0_0 : Int) (a0_1 : Int) (a0_2 : Option Addr) (len0_2 cap0_2 : Nat) (z0_2 : List Int) (w : World) (w0_0 : (Lit.int .i64 a0_0).wf = true) (w0_1 : (Lit.int .i64 a0_1).wf = true) (w0_2 : IsRow .u32 w a0_2 len0_2 cap0_2 z0_2) :
    Calls Try.prog 5 #[.agg #[.int .i64 a0_0, .int .i64 a0_1, .slice a0_2 len0_2 cap0_2]] w fun e w' => e = .returned (.bool true) ∧ Below w.heap.size w w' := by
  have BL := hide (bel_a1 w (.cells #[.int .i64 a0_0, .int .i64 a0_1, .slice a0_2 len0_2 cap0_2] 24))
  have BX := hide (Box.made w 24 #[.int .i64 a0_0, .int .i64 a0_1, .slice a0_2 len0_2 cap0_2])
  clear w0_0 w0_1
  by_cases hbig : 2000 < len0_2
  · clear w0_2
    go_enter Try.func5, Try.ntmps5
    go_wp2_with fail
    refine (ans6 _).mono ?_
    rintro e w9 ⟨rfl, b9⟩
    have B9 := hide (bel_into (unhide BL) b9)
    clear b9
    go_wp2
    go_ret
    exact ⟨rfl, unhide B9⟩
  · have hsm : len0_2 ≤ 2000 := by omega
    clear hbig
    rcases Bool.eq_false_or_eq_true (gdV a0_0 a0_1 len0_2) with hg | hg
    · have GD := hide (fun w => rgood a0_0 a0_1 a0_2 len0_2 cap0_2 true w hg)
      obtain ⟨b, off, z, W, H, rfl, rfl, rfl, I, hW1, hH1, zb⟩ := img_of w0_2 hg
      obtain ⟨n, hne⟩ : ∃ n, n = len0_2 := ⟨_, rfl⟩
      subst hne
      have I0 := hide I
      have ZB := hide zb
      clear I zb hg w0_2
      go_enter Try.func5, Try.ntmps5
      go_wp2_with fail
      refine (unhide GD _).mono ?_
      rintro e w1 ⟨rfl, b1⟩
      have B1 := hide (bel_into (unhide BL) b1)
      have X1 := hide ((unhide BX).below b1 (unhide BX).lt)
      obtain ⟨⟨c0, c1, c2⟩, _⟩ := box_cells (unhide X1)
      have hm1 := (unhide X1).lt
      clear b1 BL BX
      go_wp2_with fail
      refine (forth7 cap0_2 ((unhide I0).below (unhide B1)) hW1 hH1 (by omega)).mono ?_
      rintro e w2 ⟨g1, rfl, G⟩
      have A2 := hide (bel_a1 w2 (.cells #[.int .i64 W, .int .i64 H, .slice (some ⟨g1, 0, none⟩) n n] 24))
      have B2 := hide (bel_into (bel_into (unhide B1) G.bel) (unhide A2))
      have X2 := hide (((unhide X1).below G.bel (unhide X1).lt).alloc (.cells #[.int .i64 W, .int .i64 H, .slice (some ⟨g1, 0, none⟩) n n] 24))
      have Y2 := hide (Box.made w2 24 #[.int .i64 W, .int .i64 H, .slice (some ⟨g1, 0, none⟩) n n])
      have R2 := hide (G.row.below (unhide A2))
      clear G c0 c1 c2 hm1 X1 B1 A2
      go_upto_region 4 with fail
      generalize w2.heap.size = gx at *
      generalize w2.alloc (.cells #[.int .i64 W, .int .i64 H, .slice (some ⟨g1, 0, none⟩) n n] 24) = w3 at *
      obtain ⟨⟨c0, c1, c2⟩, _⟩ := box_cells (unhide X2)
      have hm2 := (unhide X2).lt
      go_wp2_with fail
      refine (back8 cap0_2 ((unhide I0).below (unhide B2)) hW1 hH1 (by omega)).mono ?_
      rintro e w4 ⟨g2, rfl, G⟩
      have A4 := hide (bel_a1 w4 (.cells #[.int .i64 W, .int .i64 H, .slice (some ⟨g2, 0, none⟩) n n] 24))
      have B4 := hide (bel_into (bel_into (unhide B2) G.bel) (unhide A4))
      have X4 := hide (((unhide X2).below G.bel (unhide X2).lt).alloc (.cells #[.int .i64 W, .int .i64 H, .slice (some ⟨g2, 0, none⟩) n n] 24))
      have Y4 := hide (((unhide Y2).below G.bel (unhide Y2).lt).alloc (.cells #[.int .i64 W, .int .i64 H, .slice (some ⟨g2, 0, none⟩) n n] 24))
      have V4 := hide (Box.made w4 24 #[.int .i64 W, .int .i64 H, .slice (some ⟨g2, 0, none⟩) n n])
      have R4 := hide (((unhide R2).below G.bel).below (unhide A4))
      have S4 := hide (G.row.below (unhide A4))
      clear G c0 c1 c2 hm2 X2 Y2 R2 B2 A4
      go_upto_region 5 with fail
      generalize w4.heap.size = gy at *
      generalize w4.alloc (.cells #[.int .i64 W, .int .i64 H, .slice (some ⟨g2, 0, none⟩) n n] 24) = w5 at *
      obtain ⟨⟨c0, c1, c2⟩, _⟩ := box_cells (unhide X4)
      obtain ⟨⟨d0, d1, d2⟩, _⟩ := box_cells (unhide Y4)
      obtain ⟨⟨e0, e1, e2⟩, _⟩ := box_cells (unhide V4)
      have hm4 := (unhide X4).lt
      have hy4 := (unhide Y4).lt
      have hv4 := (unhide V4).lt
      go_wp2_with fail
      go_loopw [7] (fun i wr => ∃ j : Nat, j ≤ n ∧ i = .int .i64 j ∧ Below w5.heap.size w5 wr) (fun i _ => n - (intOf i).toNat)
      case atStart => exact ⟨0, Nat.zero_le _, rfl, Below.refl _ _⟩
      case round =>
        obtain ⟨j, hj, rfl, BR⟩ := hrel
        have BR0 := hide BR
        clear c0 c1 c2 d0 d1 d2 e0 e1 e2 hm4 hy4 hv4
        obtain ⟨⟨c0, c1, c2⟩, _⟩ := box_cells ((unhide X4).below BR (unhide X4).lt)
        obtain ⟨⟨d0, d1, d2⟩, _⟩ := box_cells ((unhide Y4).below BR (unhide Y4).lt)
        obtain ⟨⟨e0, e1, e2⟩, _⟩ := box_cells ((unhide V4).below BR (unhide V4).lt)
        have hm4 := lt_of_cell c0
        have hy4 := lt_of_cell d0
        have hv4 := lt_of_cell e0
        by_cases hlt : j < n
        · have hlt' : (j : Int) < (n : Int) := by omega
          have pm := ((unhide I0).below (bel_into (unhide B4) BR)).px j hlt
          have px := ((unhide R4).below BR j hlt).1
          have py := ((unhide S4).below BR j hlt).1
          have hpm := lt_of_cell pm
          have hpx := lt_of_cell px
          have hpy := lt_of_cell py
          have K1 := stays_bits (lgV_lt (z j)) (unhide ZB j hlt) (lg_0 _) (lg_2 _)
          have K2 := stays_bits (mgV_lt (z j)) (unhide ZB j hlt) (mg_0 _) (mg_2 _)
          clear BR
          generalize lgV (z j) = u1 at *
          generalize mgV (z j) = u2 at *
          generalize z j = y at *
          go_upto_region 10 with fail
          go_quiet (fail)
          go_wp2
          go_roundw
          case rel => exact ⟨j + 1, by omega, by go_num, below_drew (unhide BR0) _⟩
          case measure => simp [intOf]; omega
        · obtain rfl : j = n := by omega
          have hnl : ¬ (j : Int) < (j : Int) := by omega
          clear BR
          go_wp2_with fail
          refine (ans6 _).mono ?_
          rintro e w7 ⟨rfl, b7⟩
          have U7 := hide (bel_into (unhide B4) (bel_into (unhide BR0) b7))
          clear b7
          go_wp2
          go_ret
          exact ⟨rfl, unhide U7⟩
    · have GD := hide (fun w => rgood a0_0 a0_1 a0_2 len0_2 cap0_2 false w hg)
      clear w0_2 hg
      go_enter Try.func5, Try.ntmps5
      go_wp2_with fail
      refine (unhide GD _).mono ?_
      rintro e w1 ⟨rfl, b1⟩
      have B1 := hide (bel_into (unhide BL) b1)
      clear b1
      go_wp2_with fail
      refine (ans6 _).mono ?_
      rintro e w9 ⟨rfl, b9⟩
      have B9 := hide (bel_into (unhide B1) b9)
      clear b9
      go_wp2
      go_ret
      exact ⟨rfl, unhide B9⟩

set_option maxRecDepth 100000 in
theorem lifted (os : Os) (started : os.Started) (H : Type) (enc : TypeId × Value → H) :
    ReturnsInHanded {} Try.checked os 5 .any (Rows.greenStaysSpec.pre6 enc Try.prog Try.f5 Rows.greenStaysRow.domain false) (Rows.greenStaysSpec.post enc Try.prog Try.f5 false true false false) := by
  refine returnsInHanded_of_change (C := Try.checked) own started (by kernel_rfl) Try.func5
    (ChangeSpec.witness6 (enc := enc) (C := Try.checked) false ⟨#[], #[.agg #[.int .i64 0, .int .i64 0, .slice none 0 0]], []⟩ 8 (by kernel_rfl) (by kernel_rfl) (by kernel_rfl) (by kernel_rfl)) ?_
  intro W base args ds gs before hval0 hW hcnd _
  have hval : ∀ (j : Nat) t v, Try.f5.params[j]? = some t → args[j]? = some v → Value.okWide Try.prog W .any base t v := hval0
  have hW' := hW
  obtain ⟨p, q, hA0, hV, rfl, hfz, hnd⟩ := hW
  have hA : DataW.TrodAll enc Try.prog W 0 (fun _ => true) true Try.f5.params.toList args.toList ds p := hA0
  rw [Try.params5] at hA hval
  obtain ⟨v0, vs0, d0, ds0, p0, q0, hargs, rfl, rfl, h0, r0⟩ := trodAll_cons hA
  obtain ⟨rfl, rfl, rfl⟩ := trodAll_nil r0
  obtain rfl : args = #[v0] := by cases args; simp_all
  obtain ⟨rfl, rfl⟩ := trodVars_none hV
  have k0 := h0
  have lt0 : ∀ x ∈ p0, x.block < W.heap.size := by obtain ⟨m, hm⟩ := k0; exact DataW.trod_lt m _ _ _ hm
  obtain ⟨c0_0, c0_1, c0_2, y0_0, y0_1, y0_2, m0, rfl, _, _, hy0_0, hy0_1, hy0_2⟩ := Go.Joins.open_agg3 Try.underlying24 (by kernel_rfl) (by kernel_rfl) (hval 0 24 v0 rfl rfl) h0
  obtain ⟨a0_0, e0_0, _, w0_0⟩ := DataW.trod_int Try.underlying3 hy0_0
  simp only [List.cons.injEq, and_true] at e0_0
  subst e0_0
  obtain ⟨a0_1, e0_1, _, w0_1⟩ := DataW.trod_int Try.underlying3 hy0_1
  simp only [List.cons.injEq, and_true] at e0_1
  subst e0_1
  obtain ⟨a0_2, len0_2, cap0_2, e0_2⟩ := Go.Joins.slice_form Try.underlying22 hy0_2
  simp only [List.cons.injEq, and_true] at e0_2
  subst e0_2
  obtain ⟨z0_2, w0_2⟩ : ∃ zs, IsRow .u32 W a0_2 len0_2 cap0_2 zs := by
    rcases open_ints Try.underlying22 Try.underlying33 (by kernel_rfl) hy0_2 with ⟨hcs, _⟩ | ⟨x, l, c, zs, hcs, _, hl, hm, hz, _, hcell, hwz⟩
    · simp at hcs
      obtain ⟨rfl, rfl, rfl⟩ := hcs
      exact ⟨[], .inl ⟨rfl, rfl, rfl, rfl⟩⟩
    · simp at hcs
      obtain ⟨rfl, rfl, rfl⟩ := hcs
      exact ⟨zs, .inr ⟨_, rfl, hl, hm, by simpa using hz, hcell, hwz⟩⟩
  clear hA0 hval0
  refine (walk a0_0 a0_1 a0_2 len0_2 cap0_2 z0_2 W w0_0 w0_1 w0_2).mono fun e W' ⟨he, bel⟩ => ?_
  subst he
  exact ⟨_, rfl, _, _, _, [], _, [], hW', trodAll_mk1 (shut_bool Try.underlying4 _), (trodAll_cons_mk (Below.trod laidOut (by kernel_rfl) (of_decide_eq_true (by kernel_rfl)) k0 bel lt0) trodAll_mk0), rfl, bel.frame _, fun h => by cases h⟩

theorem over : Rows.greenStaysRow.holds Try.pinned (OpenSpec.ofChange Rows.greenStaysSpec) :=
  OpenClaim.holds_of_wide 5 Try.f5 rfl rfl rfl rfl rfl rfl rfl ⟨rfl, rfl, rfl, rfl, rfl⟩ rfl rfl rfl rfl rfl (by kernel_rfl) Try.func5 (by kernel_rfl)
    (of_decide_eq_true (by kernel_rfl)) (by unfold Func.isWrapper; first | (rw [if_pos (by decide +kernel)]; kernel_rfl) | (rw [if_neg (by decide +kernel)]; exact ⟨rfl, rfl⟩))
    (fun os started H enc _ => lifted os started H enc)

/-- The statement. -/
theorem proved : Rows.GreenStaysSaid := over
#print axioms proved
end Go.Proofs.Ythnoamcgdidfmaa.greenStays
