/-
  What is proved: Any image by any table, and any packed one, and which may be, and the arguments are as they were: the Go function TablePacks of the statements of layer 16 returns true for all arguments.
  Conditions: none.
-/
import Derived.Test.YtflmlbdcjjldgaaRows
import Derived.Test.YtflmlbdcjjldgaaTAns
import Derived.Test.YtflmlbdcjjldgaaTBth
import Derived.WalkKit
import Derived.ProofKit
import Derived.OpenShut
import Derived.ShutString
import Derived.ChangeOld
import Derived.Below
import Derived.Deep.Grids
import Derived.Lib.SmallJoins
namespace Go.Proofs.Ytflmlbdcjjldgaa.tablePacks
open Go.ChangeShapes Go.WideShapes Go.ChangeAt Go.RowKit
open Go.Proofs.Ytflmlbdcjjldgaa.Core Go.Proofs.Ytflmlbdcjjldgaa.LBlk Go.Proofs.Ytflmlbdcjjldgaa.PNum Go.Proofs.Ytflmlbdcjjldgaa.PGoo Go.Proofs.Ytflmlbdcjjldgaa.Ims Go.Proofs.Ytflmlbdcjjldgaa.TNum Go.Proofs.Ytflmlbdcjjldgaa.TPkn Go.Proofs.Ytflmlbdcjjldgaa.TSet Go.Proofs.Ytflmlbdcjjldgaa.TCol Go.Proofs.Ytflmlbdcjjldgaa.TPak Go.Proofs.Ytflmlbdcjjldgaa.TUnp Go.Proofs.Ytflmlbdcjjldgaa.TAns Go.Proofs.Ytflmlbdcjjldgaa.TBth
open Go.ChangeMaps (open_string shut_string)
set_option linter.unusedVariables false

theorem own : ownKnob Try.prog.godebug = none := by kernel_rfl
theorem laidOut : laidOutB Try.prog = true := by kernel_rfl

/-- A slice of integers that came in: nil, or a row of cells, each fitting its kind. -/
def IsRow (k : IntKind) (w : World) (a : Option Addr) (len cap : Nat) (zs : List Int) : Prop :=
  (a = none ∧ len = 0 ∧ cap = 0 ∧ zs = []) ∨
  ∃ x, a = some x ∧ len ≤ cap ∧ cap ≤ maxLen ∧ zs.length = cap ∧ (∀ i, i < zs.length → w.cell? (x.add i) = some (.int k (zs.getD i 0))) ∧ ∀ n ∈ zs, (Lit.int k n).wf = true
/-- A slice of bools that came in. -/
def IsBools (w : World) (a : Option Addr) (len cap : Nat) (B : Nat → Bool) : Prop :=
  (a = none ∧ len = 0 ∧ cap = 0) ∨ ∃ x, a = some x ∧ len ≤ cap ∧ cap ≤ maxLen ∧ ∀ i, i < cap → w.cell? (x.add i) = some (.bool (B i))
open Go.Sort
set_option maxRecDepth 20000 in
set_option maxHeartbeats 1000000 in
theorem walk (a0_0 : Int) (a0_1 : Int) (a0_2 : Option Addr) (len0_2 cap0_2 : Nat) (z0_2 : List Int) (a1 : Option Addr) (len1 cap1 : Nat) (z1 : List Int) (a2 : Int) (w : World) (w0_0 : (Lit.int .i64 a0_0).wf = true) (w0_1 : (Lit.int .i64 a0_1).wf = true) (w0_2 : IsRow .u32 w a0_2 len0_2 cap0_2 z0_2) (w1 : IsRow .u32 w a1 len1 cap1 z1) (w2 : (Lit.int .i64 a2).wf = true) :
    Calls Try.prog 4 #[.agg #[.int .i64 a0_0, .int .i64 a0_1, .slice a0_2 len0_2 cap0_2], .slice a1 len1 cap1, .int .i64 a2] w fun e w' => e = .returned (.bool true) ∧ Below w.heap.size w w' := by
  have BL := hide (bel_a1 w (.cells #[.int .i64 a0_0, .int .i64 a0_1, .slice a0_2 len0_2 cap0_2] 24))
  have BX := hide (Box.made w 24 #[.int .i64 a0_0, .int .i64 a0_1, .slice a0_2 len0_2 cap0_2])
  by_cases h1 : 2000 < len0_2
  · clear w0_0 w0_1 w0_2 w1 w2
    go_enter Try.func4, Try.ntmps4
    go_wp2_with fail
    refine (ans8 _).mono ?_
    rintro e w9 ⟨rfl, b9⟩
    have B9 := hide (bel_into (unhide BL) b9)
    clear b9
    go_wp2
    go_ret
    exact ⟨rfl, unhide B9⟩
  by_cases h2 : 400 < len1
  · have h1' : ¬ (2000 : Int) < (len0_2 : Int) := by omega
    clear w0_0 w0_1 w0_2 w1 w2
    go_enter Try.func4, Try.ntmps4
    go_wp2_with fail
    refine (ans8 _).mono ?_
    rintro e w9 ⟨rfl, b9⟩
    have B9 := hide (bel_into (unhide BL) b9)
    clear b9
    go_wp2
    go_ret
    exact ⟨rfl, unhide B9⟩
  by_cases h3 : 3000 < a2
  · have h1' : ¬ (2000 : Int) < (len0_2 : Int) := by omega
    have h2' : ¬ (400 : Int) < (len1 : Int) := by omega
    clear w0_0 w0_1 w0_2 w1 w2
    go_enter Try.func4, Try.ntmps4
    go_wp2_with fail
    refine (ans8 _).mono ?_
    rintro e w9 ⟨rfl, b9⟩
    have B9 := hide (bel_into (unhide BL) b9)
    clear b9
    go_wp2
    go_ret
    exact ⟨rfl, unhide B9⟩
  have h1' : ¬ (2000 : Int) < (len0_2 : Int) := by omega
  have h2' : ¬ (400 : Int) < (len1 : Int) := by omega
  obtain ⟨E1, k1, W1, H1, q1, hE1, C1, D1⟩ := agree_pack (W := a0_0) (H := a0_1) w0_2 w1 (by omega)
  obtain ⟨E2, k2, W2, H2, q2, hE2, C2, D2⟩ := agree_unpack (W := a0_0) (H := a0_1) (x := a2) w0_2 w1 (by omega)
  have KC1 := hide C1
  have KD1 := hide D1
  have KC2 := hide C2
  have KD2 := hide D2
  clear C1 D1 C2 D2 w0_0 w0_1 w0_2 w1 w2 h1 h2
  rcases hE1 with ⟨rfl, rfl⟩ | ⟨rfl, rfl⟩ <;> rcases hE2 with ⟨rfl, rfl⟩ | ⟨rfl, rfl⟩
  · have X0 := hide (unhide BX)
    have B0 := hide (unhide BL)
    clear BX BL
    go_enter Try.func4, Try.ntmps4
    go_wp2_with fail
    refine (unhide KC1 _ (unhide B0)).mono ?_
    rintro e u1 ⟨sa1, sn1, sc1, rfl, i1, b1⟩
    have X1 := hide (((unhide X0).below b1 (unhide X0).lt).alloc (.cells #[.int .i64 W1, .int .i64 H1, .slice sa1 sn1 sc1] 24))
    have Y1 := hide (Box.made u1 24 #[.int .i64 W1, .int .i64 H1, .slice sa1 sn1 sc1])
    have IY1 := hide (i1.below (bel_a1 u1 (.cells #[.int .i64 W1, .int .i64 H1, .slice sa1 sn1 sc1] 24)))
    have B1 := hide (bel_into (bel_into (unhide B0) b1) (bel_a1 u1 (.cells #[.int .i64 W1, .int .i64 H1, .slice sa1 sn1 sc1] 24)))
    clear i1 b1 KC1 X0 B0 
    obtain ⟨⟨c0, c1, c2⟩, _⟩ := box_cells (unhide X1)
    go_upto_region 4 with fail
    generalize u1.heap.size = g1 at *
    generalize u1.alloc (.cells #[.int .i64 W1, .int .i64 H1, .slice sa1 sn1 sc1] 24) = v1 at *
    go_wp2_with fail
    refine (unhide KD1 _ (unhide B1)).mono ?_
    rintro e u2 ⟨sa2, sn2, sc2, rfl, i2, b2⟩
    have X2 := hide (((unhide X1).below b2 (unhide X1).lt).alloc (.cells #[.int .i64 W1, .int .i64 H1, .slice sa2 sn2 sc2] 24))
    have Y2 := hide (((unhide Y1).below b2 (unhide Y1).lt).alloc (.cells #[.int .i64 W1, .int .i64 H1, .slice sa2 sn2 sc2] 24))
    have IY2 := hide ((unhide IY1).below (bel_into b2 (bel_a1 u2 (.cells #[.int .i64 W1, .int .i64 H1, .slice sa2 sn2 sc2] 24))))
    have Z2 := hide (Box.made u2 24 #[.int .i64 W1, .int .i64 H1, .slice sa2 sn2 sc2])
    have IZ2 := hide (i2.below (bel_a1 u2 (.cells #[.int .i64 W1, .int .i64 H1, .slice sa2 sn2 sc2] 24)))
    have B2 := hide (bel_into (bel_into (unhide B1) b2) (bel_a1 u2 (.cells #[.int .i64 W1, .int .i64 H1, .slice sa2 sn2 sc2] 24)))
    clear i2 b2 KD1 X1 B1 Y1 IY1
    obtain ⟨⟨c0, c1, c2⟩, _⟩ := box_cells (unhide X2)
    go_upto_region 5 with fail
    generalize u2.heap.size = g2 at *
    generalize u2.alloc (.cells #[.int .i64 W1, .int .i64 H1, .slice sa2 sn2 sc2] 24) = v2 at *
    go_wp2_with fail
    refine (unhide KC2 _ (unhide B2)).mono ?_
    rintro e u3 ⟨sa3, sn3, sc3, rfl, i3, b3⟩
    have X3 := hide (((unhide X2).below b3 (unhide X2).lt).alloc (.cells #[.int .i64 W2, .int .i64 H2, .slice sa3 sn3 sc3] 24))
    have Y3 := hide (((unhide Y2).below b3 (unhide Y2).lt).alloc (.cells #[.int .i64 W2, .int .i64 H2, .slice sa3 sn3 sc3] 24))
    have IY3 := hide ((unhide IY2).below (bel_into b3 (bel_a1 u3 (.cells #[.int .i64 W2, .int .i64 H2, .slice sa3 sn3 sc3] 24))))
    have Z3 := hide (((unhide Z2).below b3 (unhide Z2).lt).alloc (.cells #[.int .i64 W2, .int .i64 H2, .slice sa3 sn3 sc3] 24))
    have IZ3 := hide ((unhide IZ2).below (bel_into b3 (bel_a1 u3 (.cells #[.int .i64 W2, .int .i64 H2, .slice sa3 sn3 sc3] 24))))
    have U3 := hide (Box.made u3 24 #[.int .i64 W2, .int .i64 H2, .slice sa3 sn3 sc3])
    have IU3 := hide (i3.below (bel_a1 u3 (.cells #[.int .i64 W2, .int .i64 H2, .slice sa3 sn3 sc3] 24)))
    have B3 := hide (bel_into (bel_into (unhide B2) b3) (bel_a1 u3 (.cells #[.int .i64 W2, .int .i64 H2, .slice sa3 sn3 sc3] 24)))
    clear i3 b3 KC2 X2 B2 Y2 IY2 Z2 IZ2
    obtain ⟨⟨c0, c1, c2⟩, _⟩ := box_cells (unhide X3)
    go_upto_region 6 with fail
    generalize u3.heap.size = g3 at *
    generalize u3.alloc (.cells #[.int .i64 W2, .int .i64 H2, .slice sa3 sn3 sc3] 24) = v3 at *
    go_wp2_with fail
    refine (unhide KD2 _ (unhide B3)).mono ?_
    rintro e u4 ⟨sa4, sn4, sc4, rfl, i4, b4⟩
    have X4 := hide (((unhide X3).below b4 (unhide X3).lt).alloc (.cells #[.int .i64 W2, .int .i64 H2, .slice sa4 sn4 sc4] 24))
    have Y4 := hide (((unhide Y3).below b4 (unhide Y3).lt).alloc (.cells #[.int .i64 W2, .int .i64 H2, .slice sa4 sn4 sc4] 24))
    have IY4 := hide ((unhide IY3).below (bel_into b4 (bel_a1 u4 (.cells #[.int .i64 W2, .int .i64 H2, .slice sa4 sn4 sc4] 24))))
    have Z4 := hide (((unhide Z3).below b4 (unhide Z3).lt).alloc (.cells #[.int .i64 W2, .int .i64 H2, .slice sa4 sn4 sc4] 24))
    have IZ4 := hide ((unhide IZ3).below (bel_into b4 (bel_a1 u4 (.cells #[.int .i64 W2, .int .i64 H2, .slice sa4 sn4 sc4] 24))))
    have U4 := hide (((unhide U3).below b4 (unhide U3).lt).alloc (.cells #[.int .i64 W2, .int .i64 H2, .slice sa4 sn4 sc4] 24))
    have IU4 := hide ((unhide IU3).below (bel_into b4 (bel_a1 u4 (.cells #[.int .i64 W2, .int .i64 H2, .slice sa4 sn4 sc4] 24))))
    have V4 := hide (Box.made u4 24 #[.int .i64 W2, .int .i64 H2, .slice sa4 sn4 sc4])
    have IV4 := hide (i4.below (bel_a1 u4 (.cells #[.int .i64 W2, .int .i64 H2, .slice sa4 sn4 sc4] 24)))
    have B4 := hide (bel_into (bel_into (unhide B3) b4) (bel_a1 u4 (.cells #[.int .i64 W2, .int .i64 H2, .slice sa4 sn4 sc4] 24)))
    clear i4 b4 KD2 X3 B3 Y3 IY3 Z3 IZ3 U3 IU3
    obtain ⟨⟨c0, c1, c2⟩, _⟩ := box_cells (unhide X4)
    go_upto_region 7 with fail
    generalize u4.heap.size = g4 at *
    generalize u4.alloc (.cells #[.int .i64 W2, .int .i64 H2, .slice sa4 sn4 sc4] 24) = v4 at *
    go_wp2_with fail
    refine (ans8 _).mono ?_
    rintro e u5 ⟨rfl, b5⟩
    have Y5 := hide ((unhide Y4).below b5 (unhide Y4).lt)
    have Z5 := hide ((unhide Z4).below b5 (unhide Z4).lt)
    have U5 := hide ((unhide U4).below b5 (unhide U4).lt)
    have V5 := hide ((unhide V4).below b5 (unhide V4).lt)
    have IY5 := hide ((unhide IY4).below b5)
    have IZ5 := hide ((unhide IZ4).below b5)
    have IU5 := hide ((unhide IU4).below b5)
    have IV5 := hide ((unhide IV4).below b5)
    have B5 := hide (bel_into (unhide B4) b5)
    clear b5 Y4 Z4 U4 V4 IY4 IZ4 IU4 IV4 B4 X4 c0 c1 c2
    have S1 := hide (same21 W1 H1 (unhide IY5) (unhide IZ5))
    obtain ⟨⟨y0, y1, y2⟩, _⟩ := box_cells (unhide Y5)
    obtain ⟨⟨z0, z1, z2⟩, _⟩ := box_cells (unhide Z5)
    go_wp2_with fail
    refine (unhide S1).mono ?_
    rintro e u6 ⟨rfl, b6⟩
    have U6 := hide ((unhide U5).below b6 (unhide U5).lt)
    have V6 := hide ((unhide V5).below b6 (unhide V5).lt)
    have B6 := hide (bel_into (unhide B5) b6)
    have S2 := hide (same21 W2 H2 ((unhide IU5).below b6) ((unhide IV5).below b6))
    clear b6 Y5 Z5 U5 V5 IY5 IZ5 IU5 IV5 B5 S1 y0 y1 y2 z0 z1 z2
    obtain ⟨⟨y0, y1, y2⟩, _⟩ := box_cells (unhide U6)
    obtain ⟨⟨z0, z1, z2⟩, _⟩ := box_cells (unhide V6)
    go_wp2_with fail
    refine (unhide S2).mono ?_
    rintro e u7 ⟨rfl, b7⟩
    have B7 := hide (bel_into (unhide B6) b7)
    clear b7 U6 V6 S2 y0 y1 y2 z0 z1 z2
    go_wp2
    go_ret
    exact ⟨rfl, unhide B7⟩
  · have X0 := hide (unhide BX)
    have B0 := hide (unhide BL)
    clear BX BL
    go_enter Try.func4, Try.ntmps4
    go_wp2_with fail
    refine (unhide KC1 _ (unhide B0)).mono ?_
    rintro e u1 ⟨sa1, sn1, sc1, rfl, i1, b1⟩
    have X1 := hide (((unhide X0).below b1 (unhide X0).lt).alloc (.cells #[.int .i64 W1, .int .i64 H1, .slice sa1 sn1 sc1] 24))
    have Y1 := hide (Box.made u1 24 #[.int .i64 W1, .int .i64 H1, .slice sa1 sn1 sc1])
    have IY1 := hide (i1.below (bel_a1 u1 (.cells #[.int .i64 W1, .int .i64 H1, .slice sa1 sn1 sc1] 24)))
    have B1 := hide (bel_into (bel_into (unhide B0) b1) (bel_a1 u1 (.cells #[.int .i64 W1, .int .i64 H1, .slice sa1 sn1 sc1] 24)))
    clear i1 b1 KC1 X0 B0 
    obtain ⟨⟨c0, c1, c2⟩, _⟩ := box_cells (unhide X1)
    go_upto_region 4 with fail
    generalize u1.heap.size = g1 at *
    generalize u1.alloc (.cells #[.int .i64 W1, .int .i64 H1, .slice sa1 sn1 sc1] 24) = v1 at *
    go_wp2_with fail
    refine (unhide KD1 _ (unhide B1)).mono ?_
    rintro e u2 ⟨sa2, sn2, sc2, rfl, i2, b2⟩
    have X2 := hide (((unhide X1).below b2 (unhide X1).lt).alloc (.cells #[.int .i64 W1, .int .i64 H1, .slice sa2 sn2 sc2] 24))
    have Y2 := hide (((unhide Y1).below b2 (unhide Y1).lt).alloc (.cells #[.int .i64 W1, .int .i64 H1, .slice sa2 sn2 sc2] 24))
    have IY2 := hide ((unhide IY1).below (bel_into b2 (bel_a1 u2 (.cells #[.int .i64 W1, .int .i64 H1, .slice sa2 sn2 sc2] 24))))
    have Z2 := hide (Box.made u2 24 #[.int .i64 W1, .int .i64 H1, .slice sa2 sn2 sc2])
    have IZ2 := hide (i2.below (bel_a1 u2 (.cells #[.int .i64 W1, .int .i64 H1, .slice sa2 sn2 sc2] 24)))
    have B2 := hide (bel_into (bel_into (unhide B1) b2) (bel_a1 u2 (.cells #[.int .i64 W1, .int .i64 H1, .slice sa2 sn2 sc2] 24)))
    clear i2 b2 KD1 X1 B1 Y1 IY1
    obtain ⟨⟨c0, c1, c2⟩, _⟩ := box_cells (unhide X2)
    go_upto_region 5 with fail
    generalize u2.heap.size = g2 at *
    generalize u2.alloc (.cells #[.int .i64 W1, .int .i64 H1, .slice sa2 sn2 sc2] 24) = v2 at *
    go_wp2_with fail
    refine (unhide KC2 _ (unhide B2)).mono ?_
    rintro e u3 ⟨sa3, sn3, sc3, rfl, i3, b3⟩
    have X3 := hide (((unhide X2).below b3 (unhide X2).lt).alloc (.cells #[.int .i64 W2, .int .i64 H2, .slice sa3 sn3 sc3] 24))
    have Y3 := hide (((unhide Y2).below b3 (unhide Y2).lt).alloc (.cells #[.int .i64 W2, .int .i64 H2, .slice sa3 sn3 sc3] 24))
    have IY3 := hide ((unhide IY2).below (bel_into b3 (bel_a1 u3 (.cells #[.int .i64 W2, .int .i64 H2, .slice sa3 sn3 sc3] 24))))
    have Z3 := hide (((unhide Z2).below b3 (unhide Z2).lt).alloc (.cells #[.int .i64 W2, .int .i64 H2, .slice sa3 sn3 sc3] 24))
    have IZ3 := hide ((unhide IZ2).below (bel_into b3 (bel_a1 u3 (.cells #[.int .i64 W2, .int .i64 H2, .slice sa3 sn3 sc3] 24))))
    have U3 := hide (Box.made u3 24 #[.int .i64 W2, .int .i64 H2, .slice sa3 sn3 sc3])
    have IU3 := hide (i3.below (bel_a1 u3 (.cells #[.int .i64 W2, .int .i64 H2, .slice sa3 sn3 sc3] 24)))
    have B3 := hide (bel_into (bel_into (unhide B2) b3) (bel_a1 u3 (.cells #[.int .i64 W2, .int .i64 H2, .slice sa3 sn3 sc3] 24)))
    clear i3 b3 KC2 X2 B2 Y2 IY2 Z2 IZ2
    obtain ⟨⟨c0, c1, c2⟩, _⟩ := box_cells (unhide X3)
    go_upto_region 6 with fail
    generalize u3.heap.size = g3 at *
    generalize u3.alloc (.cells #[.int .i64 W2, .int .i64 H2, .slice sa3 sn3 sc3] 24) = v3 at *
    go_wp2_with fail
    refine (unhide KD2 _ (unhide B3)).mono ?_
    rintro e u4 ⟨sa4, sn4, sc4, rfl, i4, b4⟩
    have X4 := hide (((unhide X3).below b4 (unhide X3).lt).alloc (.cells #[.int .i64 W2, .int .i64 H2, .slice sa4 sn4 sc4] 24))
    have Y4 := hide (((unhide Y3).below b4 (unhide Y3).lt).alloc (.cells #[.int .i64 W2, .int .i64 H2, .slice sa4 sn4 sc4] 24))
    have IY4 := hide ((unhide IY3).below (bel_into b4 (bel_a1 u4 (.cells #[.int .i64 W2, .int .i64 H2, .slice sa4 sn4 sc4] 24))))
    have Z4 := hide (((unhide Z3).below b4 (unhide Z3).lt).alloc (.cells #[.int .i64 W2, .int .i64 H2, .slice sa4 sn4 sc4] 24))
    have IZ4 := hide ((unhide IZ3).below (bel_into b4 (bel_a1 u4 (.cells #[.int .i64 W2, .int .i64 H2, .slice sa4 sn4 sc4] 24))))
    have U4 := hide (((unhide U3).below b4 (unhide U3).lt).alloc (.cells #[.int .i64 W2, .int .i64 H2, .slice sa4 sn4 sc4] 24))
    have IU4 := hide ((unhide IU3).below (bel_into b4 (bel_a1 u4 (.cells #[.int .i64 W2, .int .i64 H2, .slice sa4 sn4 sc4] 24))))
    have V4 := hide (Box.made u4 24 #[.int .i64 W2, .int .i64 H2, .slice sa4 sn4 sc4])
    have IV4 := hide (i4.below (bel_a1 u4 (.cells #[.int .i64 W2, .int .i64 H2, .slice sa4 sn4 sc4] 24)))
    have B4 := hide (bel_into (bel_into (unhide B3) b4) (bel_a1 u4 (.cells #[.int .i64 W2, .int .i64 H2, .slice sa4 sn4 sc4] 24)))
    clear i4 b4 KD2 X3 B3 Y3 IY3 Z3 IZ3 U3 IU3
    obtain ⟨⟨c0, c1, c2⟩, _⟩ := box_cells (unhide X4)
    go_upto_region 7 with fail
    generalize u4.heap.size = g4 at *
    generalize u4.alloc (.cells #[.int .i64 W2, .int .i64 H2, .slice sa4 sn4 sc4] 24) = v4 at *
    go_wp2_with fail
    refine (ans8 _).mono ?_
    rintro e u5 ⟨rfl, b5⟩
    have Y5 := hide ((unhide Y4).below b5 (unhide Y4).lt)
    have Z5 := hide ((unhide Z4).below b5 (unhide Z4).lt)
    have U5 := hide ((unhide U4).below b5 (unhide U4).lt)
    have V5 := hide ((unhide V4).below b5 (unhide V4).lt)
    have IY5 := hide ((unhide IY4).below b5)
    have IZ5 := hide ((unhide IZ4).below b5)
    have IU5 := hide ((unhide IU4).below b5)
    have IV5 := hide ((unhide IV4).below b5)
    have B5 := hide (bel_into (unhide B4) b5)
    clear b5 Y4 Z4 U4 V4 IY4 IZ4 IU4 IV4 B4 X4 c0 c1 c2
    have S1 := hide (same21 W1 H1 (unhide IY5) (unhide IZ5))
    obtain ⟨⟨y0, y1, y2⟩, _⟩ := box_cells (unhide Y5)
    obtain ⟨⟨z0, z1, z2⟩, _⟩ := box_cells (unhide Z5)
    go_wp2_with fail
    refine (unhide S1).mono ?_
    rintro e u6 ⟨rfl, b6⟩
    have U6 := hide ((unhide U5).below b6 (unhide U5).lt)
    have V6 := hide ((unhide V5).below b6 (unhide V5).lt)
    have B6 := hide (bel_into (unhide B5) b6)
    have S2 := hide (same21 W2 H2 ((unhide IU5).below b6) ((unhide IV5).below b6))
    clear b6 Y5 Z5 U5 V5 IY5 IZ5 IU5 IV5 B5 S1 y0 y1 y2 z0 z1 z2
    obtain ⟨⟨y0, y1, y2⟩, _⟩ := box_cells (unhide U6)
    obtain ⟨⟨z0, z1, z2⟩, _⟩ := box_cells (unhide V6)
    go_wp2_with fail
    refine (unhide S2).mono ?_
    rintro e u7 ⟨rfl, b7⟩
    have B7 := hide (bel_into (unhide B6) b7)
    clear b7 U6 V6 S2 y0 y1 y2 z0 z1 z2
    go_wp2
    go_ret
    exact ⟨rfl, unhide B7⟩
  · have X0 := hide (unhide BX)
    have B0 := hide (unhide BL)
    clear BX BL
    go_enter Try.func4, Try.ntmps4
    go_wp2_with fail
    refine (unhide KC1 _ (unhide B0)).mono ?_
    rintro e u1 ⟨sa1, sn1, sc1, rfl, i1, b1⟩
    have X1 := hide (((unhide X0).below b1 (unhide X0).lt).alloc (.cells #[.int .i64 W1, .int .i64 H1, .slice sa1 sn1 sc1] 24))
    have Y1 := hide (Box.made u1 24 #[.int .i64 W1, .int .i64 H1, .slice sa1 sn1 sc1])
    have IY1 := hide (i1.below (bel_a1 u1 (.cells #[.int .i64 W1, .int .i64 H1, .slice sa1 sn1 sc1] 24)))
    have B1 := hide (bel_into (bel_into (unhide B0) b1) (bel_a1 u1 (.cells #[.int .i64 W1, .int .i64 H1, .slice sa1 sn1 sc1] 24)))
    clear i1 b1 KC1 X0 B0 
    obtain ⟨⟨c0, c1, c2⟩, _⟩ := box_cells (unhide X1)
    go_upto_region 4 with fail
    generalize u1.heap.size = g1 at *
    generalize u1.alloc (.cells #[.int .i64 W1, .int .i64 H1, .slice sa1 sn1 sc1] 24) = v1 at *
    go_wp2_with fail
    refine (unhide KD1 _ (unhide B1)).mono ?_
    rintro e u2 ⟨sa2, sn2, sc2, rfl, i2, b2⟩
    have X2 := hide (((unhide X1).below b2 (unhide X1).lt).alloc (.cells #[.int .i64 W1, .int .i64 H1, .slice sa2 sn2 sc2] 24))
    have Y2 := hide (((unhide Y1).below b2 (unhide Y1).lt).alloc (.cells #[.int .i64 W1, .int .i64 H1, .slice sa2 sn2 sc2] 24))
    have IY2 := hide ((unhide IY1).below (bel_into b2 (bel_a1 u2 (.cells #[.int .i64 W1, .int .i64 H1, .slice sa2 sn2 sc2] 24))))
    have Z2 := hide (Box.made u2 24 #[.int .i64 W1, .int .i64 H1, .slice sa2 sn2 sc2])
    have IZ2 := hide (i2.below (bel_a1 u2 (.cells #[.int .i64 W1, .int .i64 H1, .slice sa2 sn2 sc2] 24)))
    have B2 := hide (bel_into (bel_into (unhide B1) b2) (bel_a1 u2 (.cells #[.int .i64 W1, .int .i64 H1, .slice sa2 sn2 sc2] 24)))
    clear i2 b2 KD1 X1 B1 Y1 IY1
    obtain ⟨⟨c0, c1, c2⟩, _⟩ := box_cells (unhide X2)
    go_upto_region 5 with fail
    generalize u2.heap.size = g2 at *
    generalize u2.alloc (.cells #[.int .i64 W1, .int .i64 H1, .slice sa2 sn2 sc2] 24) = v2 at *
    go_wp2_with fail
    refine (unhide KC2 _ (unhide B2)).mono ?_
    rintro e u3 ⟨sa3, sn3, sc3, rfl, i3, b3⟩
    have X3 := hide (((unhide X2).below b3 (unhide X2).lt).alloc (.cells #[.int .i64 W2, .int .i64 H2, .slice sa3 sn3 sc3] 24))
    have Y3 := hide (((unhide Y2).below b3 (unhide Y2).lt).alloc (.cells #[.int .i64 W2, .int .i64 H2, .slice sa3 sn3 sc3] 24))
    have IY3 := hide ((unhide IY2).below (bel_into b3 (bel_a1 u3 (.cells #[.int .i64 W2, .int .i64 H2, .slice sa3 sn3 sc3] 24))))
    have Z3 := hide (((unhide Z2).below b3 (unhide Z2).lt).alloc (.cells #[.int .i64 W2, .int .i64 H2, .slice sa3 sn3 sc3] 24))
    have IZ3 := hide ((unhide IZ2).below (bel_into b3 (bel_a1 u3 (.cells #[.int .i64 W2, .int .i64 H2, .slice sa3 sn3 sc3] 24))))
    have U3 := hide (Box.made u3 24 #[.int .i64 W2, .int .i64 H2, .slice sa3 sn3 sc3])
    have IU3 := hide (i3.below (bel_a1 u3 (.cells #[.int .i64 W2, .int .i64 H2, .slice sa3 sn3 sc3] 24)))
    have B3 := hide (bel_into (bel_into (unhide B2) b3) (bel_a1 u3 (.cells #[.int .i64 W2, .int .i64 H2, .slice sa3 sn3 sc3] 24)))
    clear i3 b3 KC2 X2 B2 Y2 IY2 Z2 IZ2
    obtain ⟨⟨c0, c1, c2⟩, _⟩ := box_cells (unhide X3)
    go_upto_region 6 with fail
    generalize u3.heap.size = g3 at *
    generalize u3.alloc (.cells #[.int .i64 W2, .int .i64 H2, .slice sa3 sn3 sc3] 24) = v3 at *
    go_wp2_with fail
    refine (unhide KD2 _ (unhide B3)).mono ?_
    rintro e u4 ⟨sa4, sn4, sc4, rfl, i4, b4⟩
    have X4 := hide (((unhide X3).below b4 (unhide X3).lt).alloc (.cells #[.int .i64 W2, .int .i64 H2, .slice sa4 sn4 sc4] 24))
    have Y4 := hide (((unhide Y3).below b4 (unhide Y3).lt).alloc (.cells #[.int .i64 W2, .int .i64 H2, .slice sa4 sn4 sc4] 24))
    have IY4 := hide ((unhide IY3).below (bel_into b4 (bel_a1 u4 (.cells #[.int .i64 W2, .int .i64 H2, .slice sa4 sn4 sc4] 24))))
    have Z4 := hide (((unhide Z3).below b4 (unhide Z3).lt).alloc (.cells #[.int .i64 W2, .int .i64 H2, .slice sa4 sn4 sc4] 24))
    have IZ4 := hide ((unhide IZ3).below (bel_into b4 (bel_a1 u4 (.cells #[.int .i64 W2, .int .i64 H2, .slice sa4 sn4 sc4] 24))))
    have U4 := hide (((unhide U3).below b4 (unhide U3).lt).alloc (.cells #[.int .i64 W2, .int .i64 H2, .slice sa4 sn4 sc4] 24))
    have IU4 := hide ((unhide IU3).below (bel_into b4 (bel_a1 u4 (.cells #[.int .i64 W2, .int .i64 H2, .slice sa4 sn4 sc4] 24))))
    have V4 := hide (Box.made u4 24 #[.int .i64 W2, .int .i64 H2, .slice sa4 sn4 sc4])
    have IV4 := hide (i4.below (bel_a1 u4 (.cells #[.int .i64 W2, .int .i64 H2, .slice sa4 sn4 sc4] 24)))
    have B4 := hide (bel_into (bel_into (unhide B3) b4) (bel_a1 u4 (.cells #[.int .i64 W2, .int .i64 H2, .slice sa4 sn4 sc4] 24)))
    clear i4 b4 KD2 X3 B3 Y3 IY3 Z3 IZ3 U3 IU3
    obtain ⟨⟨c0, c1, c2⟩, _⟩ := box_cells (unhide X4)
    go_upto_region 7 with fail
    generalize u4.heap.size = g4 at *
    generalize u4.alloc (.cells #[.int .i64 W2, .int .i64 H2, .slice sa4 sn4 sc4] 24) = v4 at *
    go_wp2_with fail
    refine (ans8 _).mono ?_
    rintro e u5 ⟨rfl, b5⟩
    have Y5 := hide ((unhide Y4).below b5 (unhide Y4).lt)
    have Z5 := hide ((unhide Z4).below b5 (unhide Z4).lt)
    have U5 := hide ((unhide U4).below b5 (unhide U4).lt)
    have V5 := hide ((unhide V4).below b5 (unhide V4).lt)
    have IY5 := hide ((unhide IY4).below b5)
    have IZ5 := hide ((unhide IZ4).below b5)
    have IU5 := hide ((unhide IU4).below b5)
    have IV5 := hide ((unhide IV4).below b5)
    have B5 := hide (bel_into (unhide B4) b5)
    clear b5 Y4 Z4 U4 V4 IY4 IZ4 IU4 IV4 B4 X4 c0 c1 c2
    have S1 := hide (same21 W1 H1 (unhide IY5) (unhide IZ5))
    obtain ⟨⟨y0, y1, y2⟩, _⟩ := box_cells (unhide Y5)
    obtain ⟨⟨z0, z1, z2⟩, _⟩ := box_cells (unhide Z5)
    go_wp2_with fail
    refine (unhide S1).mono ?_
    rintro e u6 ⟨rfl, b6⟩
    have U6 := hide ((unhide U5).below b6 (unhide U5).lt)
    have V6 := hide ((unhide V5).below b6 (unhide V5).lt)
    have B6 := hide (bel_into (unhide B5) b6)
    have S2 := hide (same21 W2 H2 ((unhide IU5).below b6) ((unhide IV5).below b6))
    clear b6 Y5 Z5 U5 V5 IY5 IZ5 IU5 IV5 B5 S1 y0 y1 y2 z0 z1 z2
    obtain ⟨⟨y0, y1, y2⟩, _⟩ := box_cells (unhide U6)
    obtain ⟨⟨z0, z1, z2⟩, _⟩ := box_cells (unhide V6)
    go_wp2_with fail
    refine (unhide S2).mono ?_
    rintro e u7 ⟨rfl, b7⟩
    have B7 := hide (bel_into (unhide B6) b7)
    clear b7 U6 V6 S2 y0 y1 y2 z0 z1 z2
    go_wp2
    go_ret
    exact ⟨rfl, unhide B7⟩
  · have X0 := hide (unhide BX)
    have B0 := hide (unhide BL)
    clear BX BL
    go_enter Try.func4, Try.ntmps4
    go_wp2_with fail
    refine (unhide KC1 _ (unhide B0)).mono ?_
    rintro e u1 ⟨sa1, sn1, sc1, rfl, i1, b1⟩
    have X1 := hide (((unhide X0).below b1 (unhide X0).lt).alloc (.cells #[.int .i64 W1, .int .i64 H1, .slice sa1 sn1 sc1] 24))
    have Y1 := hide (Box.made u1 24 #[.int .i64 W1, .int .i64 H1, .slice sa1 sn1 sc1])
    have IY1 := hide (i1.below (bel_a1 u1 (.cells #[.int .i64 W1, .int .i64 H1, .slice sa1 sn1 sc1] 24)))
    have B1 := hide (bel_into (bel_into (unhide B0) b1) (bel_a1 u1 (.cells #[.int .i64 W1, .int .i64 H1, .slice sa1 sn1 sc1] 24)))
    clear i1 b1 KC1 X0 B0 
    obtain ⟨⟨c0, c1, c2⟩, _⟩ := box_cells (unhide X1)
    go_upto_region 4 with fail
    generalize u1.heap.size = g1 at *
    generalize u1.alloc (.cells #[.int .i64 W1, .int .i64 H1, .slice sa1 sn1 sc1] 24) = v1 at *
    go_wp2_with fail
    refine (unhide KD1 _ (unhide B1)).mono ?_
    rintro e u2 ⟨sa2, sn2, sc2, rfl, i2, b2⟩
    have X2 := hide (((unhide X1).below b2 (unhide X1).lt).alloc (.cells #[.int .i64 W1, .int .i64 H1, .slice sa2 sn2 sc2] 24))
    have Y2 := hide (((unhide Y1).below b2 (unhide Y1).lt).alloc (.cells #[.int .i64 W1, .int .i64 H1, .slice sa2 sn2 sc2] 24))
    have IY2 := hide ((unhide IY1).below (bel_into b2 (bel_a1 u2 (.cells #[.int .i64 W1, .int .i64 H1, .slice sa2 sn2 sc2] 24))))
    have Z2 := hide (Box.made u2 24 #[.int .i64 W1, .int .i64 H1, .slice sa2 sn2 sc2])
    have IZ2 := hide (i2.below (bel_a1 u2 (.cells #[.int .i64 W1, .int .i64 H1, .slice sa2 sn2 sc2] 24)))
    have B2 := hide (bel_into (bel_into (unhide B1) b2) (bel_a1 u2 (.cells #[.int .i64 W1, .int .i64 H1, .slice sa2 sn2 sc2] 24)))
    clear i2 b2 KD1 X1 B1 Y1 IY1
    obtain ⟨⟨c0, c1, c2⟩, _⟩ := box_cells (unhide X2)
    go_upto_region 5 with fail
    generalize u2.heap.size = g2 at *
    generalize u2.alloc (.cells #[.int .i64 W1, .int .i64 H1, .slice sa2 sn2 sc2] 24) = v2 at *
    go_wp2_with fail
    refine (unhide KC2 _ (unhide B2)).mono ?_
    rintro e u3 ⟨sa3, sn3, sc3, rfl, i3, b3⟩
    have X3 := hide (((unhide X2).below b3 (unhide X2).lt).alloc (.cells #[.int .i64 W2, .int .i64 H2, .slice sa3 sn3 sc3] 24))
    have Y3 := hide (((unhide Y2).below b3 (unhide Y2).lt).alloc (.cells #[.int .i64 W2, .int .i64 H2, .slice sa3 sn3 sc3] 24))
    have IY3 := hide ((unhide IY2).below (bel_into b3 (bel_a1 u3 (.cells #[.int .i64 W2, .int .i64 H2, .slice sa3 sn3 sc3] 24))))
    have Z3 := hide (((unhide Z2).below b3 (unhide Z2).lt).alloc (.cells #[.int .i64 W2, .int .i64 H2, .slice sa3 sn3 sc3] 24))
    have IZ3 := hide ((unhide IZ2).below (bel_into b3 (bel_a1 u3 (.cells #[.int .i64 W2, .int .i64 H2, .slice sa3 sn3 sc3] 24))))
    have U3 := hide (Box.made u3 24 #[.int .i64 W2, .int .i64 H2, .slice sa3 sn3 sc3])
    have IU3 := hide (i3.below (bel_a1 u3 (.cells #[.int .i64 W2, .int .i64 H2, .slice sa3 sn3 sc3] 24)))
    have B3 := hide (bel_into (bel_into (unhide B2) b3) (bel_a1 u3 (.cells #[.int .i64 W2, .int .i64 H2, .slice sa3 sn3 sc3] 24)))
    clear i3 b3 KC2 X2 B2 Y2 IY2 Z2 IZ2
    obtain ⟨⟨c0, c1, c2⟩, _⟩ := box_cells (unhide X3)
    go_upto_region 6 with fail
    generalize u3.heap.size = g3 at *
    generalize u3.alloc (.cells #[.int .i64 W2, .int .i64 H2, .slice sa3 sn3 sc3] 24) = v3 at *
    go_wp2_with fail
    refine (unhide KD2 _ (unhide B3)).mono ?_
    rintro e u4 ⟨sa4, sn4, sc4, rfl, i4, b4⟩
    have X4 := hide (((unhide X3).below b4 (unhide X3).lt).alloc (.cells #[.int .i64 W2, .int .i64 H2, .slice sa4 sn4 sc4] 24))
    have Y4 := hide (((unhide Y3).below b4 (unhide Y3).lt).alloc (.cells #[.int .i64 W2, .int .i64 H2, .slice sa4 sn4 sc4] 24))
    have IY4 := hide ((unhide IY3).below (bel_into b4 (bel_a1 u4 (.cells #[.int .i64 W2, .int .i64 H2, .slice sa4 sn4 sc4] 24))))
    have Z4 := hide (((unhide Z3).below b4 (unhide Z3).lt).alloc (.cells #[.int .i64 W2, .int .i64 H2, .slice sa4 sn4 sc4] 24))
    have IZ4 := hide ((unhide IZ3).below (bel_into b4 (bel_a1 u4 (.cells #[.int .i64 W2, .int .i64 H2, .slice sa4 sn4 sc4] 24))))
    have U4 := hide (((unhide U3).below b4 (unhide U3).lt).alloc (.cells #[.int .i64 W2, .int .i64 H2, .slice sa4 sn4 sc4] 24))
    have IU4 := hide ((unhide IU3).below (bel_into b4 (bel_a1 u4 (.cells #[.int .i64 W2, .int .i64 H2, .slice sa4 sn4 sc4] 24))))
    have V4 := hide (Box.made u4 24 #[.int .i64 W2, .int .i64 H2, .slice sa4 sn4 sc4])
    have IV4 := hide (i4.below (bel_a1 u4 (.cells #[.int .i64 W2, .int .i64 H2, .slice sa4 sn4 sc4] 24)))
    have B4 := hide (bel_into (bel_into (unhide B3) b4) (bel_a1 u4 (.cells #[.int .i64 W2, .int .i64 H2, .slice sa4 sn4 sc4] 24)))
    clear i4 b4 KD2 X3 B3 Y3 IY3 Z3 IZ3 U3 IU3
    obtain ⟨⟨c0, c1, c2⟩, _⟩ := box_cells (unhide X4)
    go_upto_region 7 with fail
    generalize u4.heap.size = g4 at *
    generalize u4.alloc (.cells #[.int .i64 W2, .int .i64 H2, .slice sa4 sn4 sc4] 24) = v4 at *
    go_wp2_with fail
    refine (ans8 _).mono ?_
    rintro e u5 ⟨rfl, b5⟩
    have Y5 := hide ((unhide Y4).below b5 (unhide Y4).lt)
    have Z5 := hide ((unhide Z4).below b5 (unhide Z4).lt)
    have U5 := hide ((unhide U4).below b5 (unhide U4).lt)
    have V5 := hide ((unhide V4).below b5 (unhide V4).lt)
    have IY5 := hide ((unhide IY4).below b5)
    have IZ5 := hide ((unhide IZ4).below b5)
    have IU5 := hide ((unhide IU4).below b5)
    have IV5 := hide ((unhide IV4).below b5)
    have B5 := hide (bel_into (unhide B4) b5)
    clear b5 Y4 Z4 U4 V4 IY4 IZ4 IU4 IV4 B4 X4 c0 c1 c2
    have S1 := hide (same21 W1 H1 (unhide IY5) (unhide IZ5))
    obtain ⟨⟨y0, y1, y2⟩, _⟩ := box_cells (unhide Y5)
    obtain ⟨⟨z0, z1, z2⟩, _⟩ := box_cells (unhide Z5)
    go_wp2_with fail
    refine (unhide S1).mono ?_
    rintro e u6 ⟨rfl, b6⟩
    have U6 := hide ((unhide U5).below b6 (unhide U5).lt)
    have V6 := hide ((unhide V5).below b6 (unhide V5).lt)
    have B6 := hide (bel_into (unhide B5) b6)
    have S2 := hide (same21 W2 H2 ((unhide IU5).below b6) ((unhide IV5).below b6))
    clear b6 Y5 Z5 U5 V5 IY5 IZ5 IU5 IV5 B5 S1 y0 y1 y2 z0 z1 z2
    obtain ⟨⟨y0, y1, y2⟩, _⟩ := box_cells (unhide U6)
    obtain ⟨⟨z0, z1, z2⟩, _⟩ := box_cells (unhide V6)
    go_wp2_with fail
    refine (unhide S2).mono ?_
    rintro e u7 ⟨rfl, b7⟩
    have B7 := hide (bel_into (unhide B6) b7)
    clear b7 U6 V6 S2 y0 y1 y2 z0 z1 z2
    go_wp2
    go_ret
    exact ⟨rfl, unhide B7⟩

set_option maxRecDepth 100000 in
theorem lifted (os : Os) (started : os.Started) (H : Type) (enc : TypeId × Value → H) :
    ReturnsInHanded {} Try.checked os 4 .any (Rows.tablePacksSpec.pre6 enc Try.prog Try.f4 Rows.tablePacksRow.domain false) (Rows.tablePacksSpec.post enc Try.prog Try.f4 false true false false) := by
  refine returnsInHanded_of_change (C := Try.checked) own started (by kernel_rfl) Try.func4
    (ChangeSpec.witness6 (enc := enc) (C := Try.checked) false ⟨#[], #[.agg #[.int .i64 0, .int .i64 0, .slice none 0 0], .slice none 0 0, .int .i64 0], []⟩ 8 (by kernel_rfl) (by kernel_rfl) (by kernel_rfl) (by kernel_rfl)) ?_
  intro W base args ds gs before hval0 hW hcnd _
  have hval : ∀ (j : Nat) t v, Try.f4.params[j]? = some t → args[j]? = some v → Value.okWide Try.prog W .any base t v := hval0
  have hW' := hW
  obtain ⟨p, q, hA0, hV, rfl, hfz, hnd⟩ := hW
  have hA : DataW.TrodAll enc Try.prog W 0 (fun _ => true) true Try.f4.params.toList args.toList ds p := hA0
  rw [Try.params4] at hA hval
  obtain ⟨v0, vs0, d0, ds0, p0, q0, hargs, rfl, rfl, h0, r0⟩ := trodAll_cons hA
  obtain ⟨v1, vs1, d1, ds1, p1, q1, rfl, rfl, rfl, h1, r1⟩ := trodAll_cons r0
  obtain ⟨v2, vs2, d2, ds2, p2, q2, rfl, rfl, rfl, h2, r2⟩ := trodAll_cons r1
  obtain ⟨rfl, rfl, rfl⟩ := trodAll_nil r2
  obtain rfl : args = #[v0, v1, v2] := by cases args; simp_all
  obtain ⟨rfl, rfl⟩ := trodVars_none hV
  have k0 := h0
  have lt0 : ∀ x ∈ p0, x.block < W.heap.size := by obtain ⟨m, hm⟩ := k0; exact DataW.trod_lt m _ _ _ hm
  obtain ⟨c0_0, c0_1, c0_2, y0_0, y0_1, y0_2, m0, rfl, _, _, hy0_0, hy0_1, hy0_2⟩ := Go.Joins.open_agg3 Try.underlying24 (by kernel_rfl) (by kernel_rfl) (hval 0 24 v0 rfl rfl) h0
  obtain ⟨a0_0, e0_0, _, w0_0⟩ := DataW.trod_int Try.underlying3 hy0_0
  simp only [List.cons.injEq, and_true] at e0_0
  subst e0_0
  obtain ⟨a0_1, e0_1, _, w0_1⟩ := DataW.trod_int Try.underlying3 hy0_1
  simp only [List.cons.injEq, and_true] at e0_1
  subst e0_1
  obtain ⟨a0_2, len0_2, cap0_2, e0_2⟩ := Go.Joins.slice_form Try.underlying22 hy0_2
  simp only [List.cons.injEq, and_true] at e0_2
  subst e0_2
  obtain ⟨z0_2, w0_2⟩ : ∃ zs, IsRow .u32 W a0_2 len0_2 cap0_2 zs := by
    rcases open_ints Try.underlying22 Try.underlying31 (by kernel_rfl) hy0_2 with ⟨hcs, _⟩ | ⟨x, l, c, zs, hcs, _, hl, hm, hz, _, hcell, hwz⟩
    · simp at hcs
      obtain ⟨rfl, rfl, rfl⟩ := hcs
      exact ⟨[], .inl ⟨rfl, rfl, rfl, rfl⟩⟩
    · simp at hcs
      obtain ⟨rfl, rfl, rfl⟩ := hcs
      exact ⟨zs, .inr ⟨_, rfl, hl, hm, by simpa using hz, hcell, hwz⟩⟩
  obtain ⟨a1, len1, cap1, rfl⟩ := okWide_slice Try.underlying22 (hval 1 22 v1 rfl rfl)
  have k1 := h1
  have lt1 : ∀ x ∈ p1, x.block < W.heap.size := by obtain ⟨m, hm⟩ := k1; exact DataW.trod_lt m _ _ _ hm
  obtain ⟨z1, w1⟩ : ∃ zs, IsRow .u32 W a1 len1 cap1 zs := by
    obtain ⟨fuel, hf⟩ := h1
    rcases open_ints Try.underlying22 Try.underlying31 (by kernel_rfl) hf with ⟨hcs, _⟩ | ⟨x, l, c, zs, hcs, _, hl, hm, hz, _, hcell, hwz⟩
    · simp [Value.cells] at hcs
      obtain ⟨rfl, rfl, rfl⟩ := hcs
      exact ⟨[], .inl ⟨rfl, rfl, rfl, rfl⟩⟩
    · simp [Value.cells] at hcs
      obtain ⟨rfl, rfl, rfl⟩ := hcs
      exact ⟨zs, .inr ⟨_, rfl, hl, hm, by simpa using hz, hcell, hwz⟩⟩
  obtain ⟨a2, rfl, rfl, rfl, w2⟩ := open_int Try.underlying3 (hval 2 3 v2 rfl rfl) h2
  clear hA0 hval0
  refine (walk a0_0 a0_1 a0_2 len0_2 cap0_2 z0_2 a1 len1 cap1 z1 a2 W w0_0 w0_1 w0_2 w1 w2).mono fun e W' ⟨he, bel⟩ => ?_
  subst he
  exact ⟨_, rfl, _, _, _, [], _, [], hW', trodAll_mk1 (shut_bool Try.underlying4 _), (trodAll_cons_mk (Below.trod laidOut (by kernel_rfl) (of_decide_eq_true (by kernel_rfl)) k0 bel lt0) (trodAll_cons_mk (Below.trod laidOut (by kernel_rfl) (of_decide_eq_true (by kernel_rfl)) k1 bel lt1) (trodAll_cons_mk (shut_int Try.underlying3 w2) trodAll_mk0))), rfl, bel.frame _, fun h => by cases h⟩

theorem over : Rows.tablePacksRow.holds Try.pinned (OpenSpec.ofChange Rows.tablePacksSpec) :=
  OpenClaim.holds_of_wide 4 Try.f4 rfl rfl rfl rfl rfl rfl rfl ⟨rfl, rfl, rfl, rfl, rfl⟩ rfl rfl rfl rfl rfl (by kernel_rfl) Try.func4 (by kernel_rfl)
    (of_decide_eq_true (by kernel_rfl)) (by unfold Func.isWrapper; first | (rw [if_pos (by decide +kernel)]; kernel_rfl) | (rw [if_neg (by decide +kernel)]; exact ⟨rfl, rfl⟩))
    (fun os started H enc _ => lifted os started H enc)

/-- The statement. -/
theorem proved : Rows.TablePacksSaid := over
#print axioms proved
end Go.Proofs.Ytflmlbdcjjldgaa.tablePacks
