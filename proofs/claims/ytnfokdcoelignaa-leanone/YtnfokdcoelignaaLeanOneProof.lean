/-
  What is proved: With one mode for all blocks Forth answers the same, however large the blocks are: the Go function LeanOne of the statements of layer 13 returns true for all arguments.
  Conditions: none.
-/
import Derived.Test.YtnfokdcoelignaaRows
import Derived.Test.YtnfokdcoelignaaLAns
import Derived.Test.YtnfokdcoelignaaLRef
import Derived.Test.YtnfokdcoelignaaLGth
import Derived.Test.YtnfokdcoelignaaLInp
import Derived.WalkKit
import Derived.ProofKit
import Derived.OpenShut
import Derived.ShutString
import Derived.ChangeOld
import Derived.Below
import Derived.Deep.Grids
import Derived.Lib.SmallJoins
namespace Go.Proofs.Ytnfokdcoelignaa.leanOne
open Go.ChangeShapes Go.WideShapes Go.ChangeAt Go.RowKit
open Go.Proofs.Ytnfokdcoelignaa.Core Go.Proofs.Ytnfokdcoelignaa.PNum Go.Proofs.Ytnfokdcoelignaa.PFun Go.Proofs.Ytnfokdcoelignaa.PRfn Go.Proofs.Ytnfokdcoelignaa.PGoo Go.Proofs.Ytnfokdcoelignaa.GGue Go.Proofs.Ytnfokdcoelignaa.GImg Go.Proofs.Ytnfokdcoelignaa.GAro Go.Proofs.Ytnfokdcoelignaa.GAtt Go.Proofs.Ytnfokdcoelignaa.GCpy Go.Proofs.Ytnfokdcoelignaa.LBlk Go.Proofs.Ytnfokdcoelignaa.LMod Go.Proofs.Ytnfokdcoelignaa.LSnd Go.Proofs.Ytnfokdcoelignaa.LEch Go.Proofs.Ytnfokdcoelignaa.LNum Go.Proofs.Ytnfokdcoelignaa.LFor Go.Proofs.Ytnfokdcoelignaa.LAns Go.Proofs.Ytnfokdcoelignaa.LRef Go.Proofs.Ytnfokdcoelignaa.LGth Go.Proofs.Ytnfokdcoelignaa.LInp
open Go.ChangeMaps (open_string shut_string)
set_option linter.unusedVariables false

theorem own : ownKnob Try.prog.godebug = none := by kernel_rfl
theorem laidOut : laidOutB Try.prog = true := by kernel_rfl

/-- A slice of integers that came in: nil, or a row of cells, each fitting its kind. -/
def IsRow (k : IntKind) (w : World) (a : Option Addr) (len cap : Nat) (zs : List Int) : Prop :=
  (a = none ∧ len = 0 ∧ cap = 0 ∧ zs = []) ∨
  ∃ x, a = some x ∧ len ≤ cap ∧ cap ≤ maxLen ∧ zs.length = cap ∧ (∀ i, i < zs.length → w.cell? (x.add i) = some (.int k (zs.getD i 0))) ∧ ∀ n ∈ zs, (Lit.int k n).wf = true
/-- A slice of bools that came in. -/
def IsBools (w : World) (a : Option Addr) (len cap : Nat) (B : Nat → Bool) : Prop :=
  (a = none ∧ len = 0 ∧ cap = 0) ∨ ∃ x, a = some x ∧ len ≤ cap ∧ cap ≤ maxLen ∧ ∀ i, i < cap → w.cell? (x.add i) = some (.bool (B i))
open Go.Sort
/-- The image, the list of sizes and the two results, so far. -/
structure OneB (w : World) (W H b off n c gB gL k0 k1 : Nat) (os : Array Value) (wr : World) : Prop where
  img : Box wr w.heap.size 24 #[.int .i64 W, .int .i64 H, .slice (some ⟨b, off, none⟩) n c]
  out : Box wr gB 35 os
  lst : Box wr gL 3 #[.int .i64 k0, .int .i64 k1]
  bel : Below w.heap.size w wr
theorem OneB.keep {w wr w' : World} {W H b off n c gB gL k0 k1 : Nat} {os : Array Value} (h : OneB w W H b off n c gB gL k0 k1 os wr) (u : Below wr.heap.size wr w') : OneB w W H b off n c gB gL k0 k1 os w' :=
  ⟨h.img.below u h.img.lt, h.out.below u h.out.lt, h.lst.below u h.lst.lt, bel_into h.bel u⟩
theorem OneB.put {w wr : World} {W H b off n c gB gL k0 k1 : Nat} {os : Array Value} (h : OneB w W H b off n c gB gL k0 k1 os wr) (hB : w.heap.size < gB) (hL : gL = gB + 1) (i : Nat) (x y s : Value) :
    OneB w W H b off n c gB gL k0 k1 (((os.setIfInBounds i x).setIfInBounds (i + 1) y).setIfInBounds (i + 2) s) (((wr.setCell ⟨gB, i, none⟩ x).setCell ⟨gB, i + 1, none⟩ y).setCell ⟨gB, i + 2, none⟩ s) := by
  have n1 : w.heap.size ≠ gB := by omega
  have n2 : gL ≠ gB := by omega
  have n3 : w.heap.size ≤ gB := by omega
  exact ⟨((h.img.other (p := ⟨gB, i, none⟩) n1 _).other (p := ⟨gB, i + 1, none⟩) n1 _).other (p := ⟨gB, i + 2, none⟩) n1 _, ((h.out.set i x).set (i + 1) y).set (i + 2) s,
    ((h.lst.other (p := ⟨gB, i, none⟩) n2 _).other (p := ⟨gB, i + 1, none⟩) n2 _).other (p := ⟨gB, i + 2, none⟩) n2 _, ((h.bel.setCell (p := ⟨gB, i, none⟩) n3 _).setCell (p := ⟨gB, i + 1, none⟩) n3 _).setCell (p := ⟨gB, i + 2, none⟩) n3 _⟩
theorem pow_put {wr : World} {g gB n i : Nat} {F : Nat → Nat} {x y s : Value} (h : Pow wr g n F) (hg : gB < g) : Pow (((wr.setCell ⟨gB, i, none⟩ x).setCell ⟨gB, i + 1, none⟩ y).setCell ⟨gB, i + 2, none⟩ s) g n F := by
  have n1 : g ≠ gB := by omega
  exact ((h.other (p := ⟨gB, i, none⟩) n1 _).other (p := ⟨gB, i + 1, none⟩) n1 _).other (p := ⟨gB, i + 2, none⟩) n1 _
def os0 : Array Value := #[.int .i64 0, .int .i64 0, .slice none 0 0, .int .i64 0, .int .i64 0, .slice none 0 0]
def os1 (W H n g1 : Nat) : Array Value := #[.int .i64 W, .int .i64 H, .slice (some ⟨g1, 0, none⟩) n n, .int .i64 0, .int .i64 0, .slice none 0 0]
def os2 (W H n g1 g2 : Nat) : Array Value := #[.int .i64 W, .int .i64 H, .slice (some ⟨g1, 0, none⟩) n n, .int .i64 W, .int .i64 H, .slice (some ⟨g2, 0, none⟩) n n]
/-- How far the two are. -/
def OneR (w : World) (W H b off n c gB gL k0 k1 : Nat) (F : Nat → Nat) (s : Value) (wr : World) : Prop :=
  (s = .int .i64 0 ∧ OneB w W H b off n c gB gL k0 k1 os0 wr) ∨
  (s = .int .i64 1 ∧ ∃ g1, OneB w W H b off n c gB gL k0 k1 (os1 W H n g1) wr ∧ gB < g1 ∧ Pow wr g1 n F) ∨
  (s = .int .i64 2 ∧ ∃ g1 g2, OneB w W H b off n c gB gL k0 k1 (os2 W H n g1 g2) wr ∧ Pow wr g1 n F ∧ Pow wr g2 n F)
/-- What Forth gave, and where it was laid. -/
structure XI (w2 : World) (W H n : Nat) (F : Nat → Nat) (v e : Value) (wx : World) : Prop where
  ex : ∃ gx g', v = .pointer (some ⟨gx, 0, none⟩) ∧ e = .int .i64 0 ∧ Box wx gx 24 #[.int .i64 W, .int .i64 H, .slice (some ⟨g', 0, none⟩) n n] ∧ Pow wx g' n F ∧ w2.heap.size ≤ g'
  bel : Below w2.heap.size w2 wx
theorem xi_mk {w2 w4 : World} {W H n g' : Nat} {F : Nat → Nat} (P : Pow w4 g' n F) (hg : w2.heap.size ≤ g') (b : Below w2.heap.size w2 w4) :
    XI w2 W H n F (.pointer (some ⟨w4.heap.size, 0, none⟩)) (.int .i64 0) (w4.alloc (.cells #[.int .i64 W, .int .i64 H, .slice (some ⟨g', 0, none⟩) n n] 24)) :=
  ⟨⟨_, g', rfl, rfl, Box.made _ _ _, P.below (bel_a1 _ _), hg⟩, b.alloc b.size _⟩
theorem xi_set {w2 w4 : World} {W H n g' N : Nat} {F : Nat → Nat} {x y s : Value} (hN : Box w4 N 24 #[x, y, s]) (P : Pow w4 g' n F) (hg : w2.heap.size ≤ g') (hNg : N < g') (h2 : w2.heap.size ≤ N) (b : Below w2.heap.size w2 w4) :
    XI w2 W H n F (.pointer (some ⟨N, 0, none⟩)) (.int .i64 0) (((w4.setCell ⟨N, 0, none⟩ (.int .i64 W)).setCell ⟨N, 1, none⟩ (.int .i64 H)).setCell ⟨N, 2, none⟩ (.slice (some ⟨g', 0, none⟩) n n)) :=
  ⟨⟨N, g', rfl, rfl, ((hN.set 0 _).set 1 _).set 2 _, pow_put (i := 0) P hNg, hg⟩, ((b.setCell (p := ⟨N, 0, none⟩) h2 _).setCell (p := ⟨N, 1, none⟩) h2 _).setCell (p := ⟨N, 2, none⟩) h2 _⟩
theorem keepS {w2 w4 : World} {gm gL : Nat} {x y s k0 k1 : Value} (BM : Box w2 gm 24 #[x, y, s]) (BL : Box w2 gL 3 #[k0, k1]) (u : Below w2.heap.size w2 w4) :
    (w4.cell? ⟨gm, 0, none⟩ = some x ∧ w4.cell? ⟨gm, 1, none⟩ = some y ∧ w4.cell? ⟨gm, 2, none⟩ = some s) ∧ w4.cell? ⟨gL, 0, none⟩ = some k0 ∧ w4.cell? ⟨gL, 1, none⟩ = some k1 ∧ gm < w4.heap.size ∧ gL < w4.heap.size :=
  ⟨keep_image BM u, ((BL.below u BL.lt).cell 0).trans rfl, ((BL.below u BL.lt).cell 1).trans rfl, Nat.lt_of_lt_of_le BM.lt u.size, Nat.lt_of_lt_of_le BL.lt u.size⟩
theorem keepT {w4 : World} {gm gL N : Nat} {x y s k0 k1 a b c : Value} (h1 : gm ≠ N) (h2 : gL ≠ N) (h : (w4.cell? ⟨gm, 0, none⟩ = some x ∧ w4.cell? ⟨gm, 1, none⟩ = some y ∧ w4.cell? ⟨gm, 2, none⟩ = some s) ∧ w4.cell? ⟨gL, 0, none⟩ = some k0 ∧ w4.cell? ⟨gL, 1, none⟩ = some k1) :
    let w' := ((w4.setCell ⟨N, 0, none⟩ a).setCell ⟨N, 1, none⟩ b).setCell ⟨N, 2, none⟩ c
    (w'.cell? ⟨gm, 0, none⟩ = some x ∧ w'.cell? ⟨gm, 1, none⟩ = some y ∧ w'.cell? ⟨gm, 2, none⟩ = some s) ∧ w'.cell? ⟨gL, 0, none⟩ = some k0 ∧ w'.cell? ⟨gL, 1, none⟩ = some k1 := by
  refine ⟨keep3 h1 h.1, ?_, ?_⟩
  · rw [cell_other h2, cell_other h2, cell_other h2]; exact h.2.1
  · rw [cell_other h2, cell_other h2, cell_other h2]; exact h.2.2
theorem box_made {w w4 : World} {vs : Array Value} (b : Below ((w.alloc (.cells vs 24)).drew).heap.size (w.alloc (.cells vs 24)).drew w4) : Box w4 w.heap.size 24 vs :=
  Box.below (w := (w.alloc (.cells vs 24)).drew) (Box.made w 24 vs) b (Box.made w 24 vs).lt
set_option maxRecDepth 20000 in
set_option maxHeartbeats 1000000 in
theorem walk (a0_0 : Int) (a0_1 : Int) (a0_2 : Option Addr) (len0_2 cap0_2 : Nat) (z0_2 : List Int) (a1 : Int) (a2 : Int) (a3 : Int) (w : World) (w0_0 : (Lit.int .i64 a0_0).wf = true) (w0_1 : (Lit.int .i64 a0_1).wf = true) (w0_2 : IsRow .u32 w a0_2 len0_2 cap0_2 z0_2) (w1 : (Lit.int .u8 a1).wf = true) (w2 : (Lit.int .u8 a2).wf = true) (w3 : (Lit.int .u8 a3).wf = true) :
    Calls Try.prog 5 #[.agg #[.int .i64 a0_0, .int .i64 a0_1, .slice a0_2 len0_2 cap0_2], .int .u8 a1, .int .u8 a2, .int .u8 a3] w fun e w' => e = .returned (.bool true) ∧ Below w.heap.size w w' := by
  have BL := hide (bel_a1 w (.cells #[.int .i64 a0_0, .int .i64 a0_1, .slice a0_2 len0_2 cap0_2] 24))
  have BX := hide (Box.made w 24 #[.int .i64 a0_0, .int .i64 a0_1, .slice a0_2 len0_2 cap0_2])
  obtain ⟨m0, m1⟩ := bounds_u8 w1
  obtain ⟨x0, x1⟩ := bounds_u8 w2
  obtain ⟨y0, y1⟩ := bounds_u8 w3
  clear w0_0 w0_1 w1 w2 w3
  rcases Bool.eq_false_or_eq_true (gdV a0_0 a0_1 len0_2) with hg | hg
  · have HG := hide hg
    by_cases hbig : 2000 < len0_2
    · clear hg w0_2
      go_enter Try.func5, Try.ntmps5
      go_wp2_with fail
      refine (rgood25 _ _ _ _ _ _).mono ?_
      rintro e w1 ⟨rfl, b1⟩
      obtain ⟨c0, c1, c2⟩ := keep_image (unhide BX) b1
      have B1 := hide (below_two (unhide BL) b1)
      clear b1
      rw [unhide HG]
      go_wp2_with fail
      refine (ans7 _).mono ?_
      rintro e w2 ⟨rfl, b2⟩
      have B2 := hide (below_two (unhide B1) b2)
      clear b2
      go_wp2
      go_ret
      exact ⟨rfl, unhide B2⟩
    · have hsm : len0_2 ≤ 2000 := by omega
      clear hbig
      obtain ⟨b, off, z, W, H, rfl, rfl, rfl, I, hW1, hH1, zb⟩ := img_of w0_2 hg
      obtain ⟨n, hne⟩ : ∃ n, n = len0_2 := ⟨_, rfl⟩
      subst hne
      have hn0 : 0 < n := by rw [I.hn]; exact Nat.mul_pos hW1 hH1
      have hW2 := I.hW
      have hH2 := I.hH
      have HN := hide I.hn
      have I0 := hide I
      obtain ⟨k0, hk0⟩ : ∃ k0 : Nat, 2 + a2 % 8 = (k0 : Int) := ⟨(2 + a2 % 8).toNat, by omega⟩
      obtain ⟨k1, hk1⟩ : ∃ k1 : Nat, 2 + a3 % 8 = (k1 : Int) := ⟨(2 + a3 % 8).toNat, by omega⟩
      obtain ⟨md, hme⟩ : ∃ md : Int, a1 % 16 = md := ⟨_, rfl⟩
      have ka : 2 ≤ k0 := by omega
      have kb : k0 ≤ 9 := by omega
      have kc : 2 ≤ k1 := by omega
      have kd : k1 ≤ 9 := by omega
      have MD1 : Hid (0 ≤ md ∧ md ≤ 15) := hide (by omega)
      obtain ⟨j0, hj0, yz0, yz1, yz2⟩ := info_parts LGth.info3
      obtain ⟨F, hF⟩ : ∃ F, F = foV W 2 (fun _ => md) z := ⟨_, rfl⟩
      clear I hg w0_2 zb
      go_enter Try.func5, Try.ntmps5
      go_wp2_with fail
      refine (rgood25 _ _ _ _ _ _).mono ?_
      rintro e w1 ⟨rfl, b1⟩
      obtain ⟨c0, c1, c2⟩ := keep_image (unhide BX) b1
      have B1 := hide (below_two (unhide BL) b1)
      have U1 := hide b1
      have S1 : Hid (OneB w W H b off n cap0_2 w1.heap.size (w1.heap.size + 1) k0 k1 os0 ((w1.alloc (.cells os0 35)).alloc (.cells #[.int .i64 k0, .int .i64 k1] 3))) :=
        hide ⟨(((unhide BX).below b1 (unhide BX).lt).alloc _).alloc _, (two_boxes w1 _ _ 35 3).1, (two_boxes w1 _ _ 35 3).2, bel_into (unhide B1) (bel_a2 _ _ _)⟩
      have HB := hide (show w.heap.size < w1.heap.size from ((unhide BX).below b1 (unhide BX).lt).lt)
      clear b1
      rw [unhide HG]
      go_wp2_with fail
      subst hF
      unfold os0 at S1
      generalize hF : foV W 2 (fun _ => md) z = F at *
      generalize hw2 : (w1.alloc (.cells #[.int .i64 0, .int .i64 0, .slice none 0 0, .int .i64 0, .int .i64 0, .slice none 0 0] 35)).alloc (.cells #[.int .i64 k0, .int .i64 k1] 3) = wS at *
      clear hw2 c0 c1 c2 U1 BX BL B1
      generalize w1.heap.size = gB at *
      obtain ⟨gL, hL⟩ : ∃ gL, gL = gB + 1 := ⟨_, rfl⟩
      have HL := hide hL
      rw [← hL] at S1 ⊢
      clear hL
      have HF := hide hF
      clear hF
      go_loopw [11] (fun s wr => OneR w W H b off n cap0_2 gB gL k0 k1 F s wr) (fun s _ => 2 - (intOf s).toNat)
      case atStart => exact .inl ⟨rfl, unhide S1⟩
      case round =>
        clear S1
        rcases hrel with ⟨rfl, O⟩ | ⟨rfl, g1, O, hg1, p1⟩ | ⟨rfl, g1, g2, O, p1, p2⟩
        · have hlt : (0 : Int) < 2 := by omega
          have OB := hide O
          obtain ⟨⟨c0, c1, c2⟩, _⟩ := box_cells O.img
          have l0 : wr.cell? ⟨gL, 0, none⟩ = some (.int .i64 k0) := O.lst.cell 0
          have l1 : wr.cell? ⟨gL, 1, none⟩ = some (.int .i64 k1) := O.lst.cell 1
          have hgL := O.lst.lt
          have hgm := O.img.lt
          clear O
          have Q1 := hide (fun w => rblk16 W k0 w hW2 (by omega))
          have Q2 := hide (fun w => rblk16 H k0 w hH2 (by omega))
          have hbW := bl_le W k0
          have hbH := bl_le H k0
          have hpW := bl_pos k0 (show 0 < W by omega)
          have hpH := bl_pos k0 (show 0 < H by omega)
          obtain ⟨r, hr⟩ : ∃ r, r = bl W k0 * bl H k0 := ⟨_, rfl⟩
          have hr0 : 1 ≤ r := by rw [hr]; exact Nat.mul_pos hpW hpH
          have hr1 : r ≤ 2000 := by rw [hr]; have := Nat.mul_le_mul hbW hbH; have := unhide HN; omega
          have M2 : IntKind.i64.wrap ((bl W k0 : Int) * (bl H k0 : Int)) = (r : Int) := by rw [hr]; exact prod_wrap (by omega) (by omega)
          have HR := hide hr
          clear hr hbW hbH hpW hpH
          go_wp2_with fail
          go_quiet ((go_at_call 16; first | (with_reducible exact Calls.quiet_of_same (unhide Q1 _)) | (with_reducible exact Calls.quiet_of_same (unhide Q2 _))))
          rename_i nq
          have OQ := hide ((unhide OB).keep (drewN_below wr nq))
          clear c0 c1 c2 l0 l1 hgL hgm Q1 Q2
          generalize wr.drewN nq = wq at *
          go_wp2
          go_loopw [12, 14] (fun v i wr => ∃ q : Nat, q ≤ r ∧ i = .int .i64 q ∧ Gth wq wr v (fun _ => md) q) (fun _ i _ => r - (intOf i).toNat)
          case atStart => exact ⟨0, Nat.zero_le _, rfl, Gth.start wq _⟩
          case round =>
            obtain ⟨q, hq, rfl, gth⟩ := hrel
            have GT := hide gth
            by_cases hlq : q < r
            · have hlq' : (q : Int) < (r : Int) := by omega
              clear gth
              go_wp2_with (first | (at_builtin; refine wpList_append_own _ rfl (.tmp 60) (.tmp 64) 25 rfl wq.heap.size 3 j0 (.int .i64 0) 1 8 Try.underlying25 hj0 yz0 yz1 yz2 rfl (by decide) _ q (LGth.cells (fun _ => md) q) rfl ((unhide GT).own.alloc _) ⟨wr.heap.size, 0, none⟩ 1 1 [.int .i64 md] rfl rfl (cell_one_new _ _ _) (one_one _ _) (by unfold maxLen; omega) (by omega) (by have := (unhide GT).bel.size; simp; omega) ?_; intro v1 w1 own1 gr1 _; have GA1 := hide ((unhide GT).app own1 gr1 rfl); clear own1 gr1) | fail)
              go_roundw
              case rel => exact ⟨q + 1, by omega, by go_num, unhide GA1⟩
              case measure => simp [intOf]; omega
            · obtain rfl : q = r := by omega
              have hnq : ¬ (q : Int) < (q : Int) := by omega
              obtain ⟨mb, cm, rfl, mds⟩ := gth.mds (by omega)
              have O2 := hide ((unhide OQ).keep gth.bel)
              have MM := hide mds
              have SO := hide (so_yes (gd_mk hW1 hW2 hH1 hH2 (unhide HN)) (by omega) (by omega) (unhide HR) (mdB_yes (md := fun _ => md) fun _ _ => by have := unhide MD1; omega))
              have I2 := hide ((unhide I0).below (unhide O2).bel)
              clear gth mds GT OQ OB HR M2
              obtain ⟨⟨c0, c1, c2⟩, l0, l1, hgm, hgL⟩ := keepS (unhide O2).img (unhide O2).lst (Below.refl _ _)
              go_upto_region 14 with fail
              go_cut [15, 16] from 66 to 75 (fun v e wx => XI wr W H n F v e wx)
              case first =>
                go_region_held3 (fun w' => (w'.cell? ⟨w.heap.size, 0, none⟩ = some (.int .i64 W) ∧ w'.cell? ⟨w.heap.size, 1, none⟩ = some (.int .i64 H) ∧ w'.cell? ⟨w.heap.size, 2, none⟩ = some (.slice (some ⟨b, off, none⟩) n cap0_2)) ∧ w'.cell? ⟨gL, 0, none⟩ = some (.int .i64 k0) ∧ w'.cell? ⟨gL, 1, none⟩ = some (.int .i64 k1)) (first | go_keep | exact ⟨⟨c04, c14, c24⟩, l04, l14⟩ | exact keepT (by omega) (by omega) ⟨⟨c04, c14, c24⟩, l04, l14⟩) ((go_at_call 8; refine (forth8 (k := k0) cap0_2 cm ((unhide I2).below (by first | exact bel_dr (bel_a1 _ _) | exact bel_dr (Below.refl _ _) | exact bel_a1 _ _ | exact Below.refl _ _)) ((unhide MM).below (by first | exact bel_dr (bel_a1 _ _) | exact bel_dr (Below.refl _ _) | exact bel_a1 _ _ | exact Below.refl _ _)) (by omega) (by omega) (unhide SO)).mono ?_; rintro e w4 ⟨g', rfl, G4⟩; have B4 : Hid (Below wr.heap.size wr w4) := hide (bel_into (by first | exact bel_dr (bel_a1 _ _) | exact bel_dr (Below.refl _ _) | exact bel_a1 _ _ | exact Below.refl _ _) G4.bel); obtain ⟨⟨c04, c14, c24⟩, l04, l14, hgm4, hgL4⟩ := keepS (unhide O2).img (unhide O2).lst (unhide B4); have P4 := hide (G4.row.congr (fun i hi => (fo_one W k0 2 (md' := fun _ => md) z rfl).trans (congrFun (unhide HF) i))); have N4 := hide G4.new; (first | (have n4 := box_made G4.bel; have Z4 := hide n4; obtain ⟨⟨z04, z14, z24⟩, y04, y14, y24⟩ := box_cells n4; have hz4 := n4.lt; clear n4) | skip); clear G4))
                all_goals go_wp2_with fail
                all_goals go_meet
                all_goals first | exact xi_mk (unhide P4) (Nat.le_trans (by first | exact Nat.le_refl _ | (simp; done)) (unhide N4)) (unhide B4) | exact xi_set (unhide Z4) (unhide P4) (by have h := unhide N4; simp at h; omega) (by have h := unhide N4; simp at h; omega) (by omega) (unhide B4)
              case rest =>
                obtain ⟨⟨gx, g', rfl, rfl, bx, pw, hg'⟩, bel⟩ := hcut
                have O3 := hide ((unhide O2).keep bel)
                have PX := hide pw
                have HG' := hide (show gB < g' by have := (unhide O2).out.lt; omega)
                obtain ⟨⟨x0, x1, x2⟩, _⟩ := box_cells bx
                have hx := bx.lt
                have ho := (unhide O3).out.lt
                have q0 : wc.cell? ⟨gB, 0, none⟩ = some (.int .i64 0) := (unhide O3).out.cell 0
                have q1 : wc.cell? ⟨gB, 1, none⟩ = some (.int .i64 0) := (unhide O3).out.cell 1
                have q2 : wc.cell? ⟨gB, 2, none⟩ = some (.slice none 0 0) := (unhide O3).out.cell 2
                have f0 := (unhide O3).out.free 0
                have f1 := (unhide O3).out.free 1
                have f2 := (unhide O3).out.free 2
                clear bx pw hg' bel c0 c1 c2 l0 l1 hgm hgL
                go_wp2
                go_roundw
                case rel => exact .inr (.inl ⟨by go_num, g', (unhide O3).put (unhide HB) (unhide HL) 0 _ _ _, unhide HG', pow_put (i := 0) (unhide PX) (unhide HG')⟩)
                case measure => simp [intOf]
        · have HG1 := hide hg1
          have P1 := hide p1
          clear hg1 p1
          have hlt : (1 : Int) < 2 := by omega
          have OB := hide O
          obtain ⟨⟨c0, c1, c2⟩, _⟩ := box_cells O.img
          have l0 : wr.cell? ⟨gL, 0, none⟩ = some (.int .i64 k0) := O.lst.cell 0
          have l1 : wr.cell? ⟨gL, 1, none⟩ = some (.int .i64 k1) := O.lst.cell 1
          have hgL := O.lst.lt
          have hgm := O.img.lt
          clear O
          have Q1 := hide (fun w => rblk16 W k1 w hW2 (by omega))
          have Q2 := hide (fun w => rblk16 H k1 w hH2 (by omega))
          have hbW := bl_le W k1
          have hbH := bl_le H k1
          have hpW := bl_pos k1 (show 0 < W by omega)
          have hpH := bl_pos k1 (show 0 < H by omega)
          obtain ⟨r, hr⟩ : ∃ r, r = bl W k1 * bl H k1 := ⟨_, rfl⟩
          have hr0 : 1 ≤ r := by rw [hr]; exact Nat.mul_pos hpW hpH
          have hr1 : r ≤ 2000 := by rw [hr]; have := Nat.mul_le_mul hbW hbH; have := unhide HN; omega
          have M2 : IntKind.i64.wrap ((bl W k1 : Int) * (bl H k1 : Int)) = (r : Int) := by rw [hr]; exact prod_wrap (by omega) (by omega)
          have HR := hide hr
          clear hr hbW hbH hpW hpH
          go_wp2_with fail
          go_quiet ((go_at_call 16; first | (with_reducible exact Calls.quiet_of_same (unhide Q1 _)) | (with_reducible exact Calls.quiet_of_same (unhide Q2 _))))
          rename_i nq
          have OQ := hide ((unhide OB).keep (drewN_below wr nq))
          have PQ := hide ((unhide P1).below (drewN_below wr nq))
          clear c0 c1 c2 l0 l1 hgL hgm Q1 Q2
          generalize wr.drewN nq = wq at *
          go_wp2
          go_loopw [12, 14] (fun v i wr => ∃ q : Nat, q ≤ r ∧ i = .int .i64 q ∧ Gth wq wr v (fun _ => md) q) (fun _ i _ => r - (intOf i).toNat)
          case atStart => exact ⟨0, Nat.zero_le _, rfl, Gth.start wq _⟩
          case round =>
            obtain ⟨q, hq, rfl, gth⟩ := hrel
            have GT := hide gth
            by_cases hlq : q < r
            · have hlq' : (q : Int) < (r : Int) := by omega
              clear gth
              go_wp2_with (first | (at_builtin; refine wpList_append_own _ rfl (.tmp 60) (.tmp 64) 25 rfl wq.heap.size 3 j0 (.int .i64 0) 1 8 Try.underlying25 hj0 yz0 yz1 yz2 rfl (by decide) _ q (LGth.cells (fun _ => md) q) rfl ((unhide GT).own.alloc _) ⟨wr.heap.size, 0, none⟩ 1 1 [.int .i64 md] rfl rfl (cell_one_new _ _ _) (one_one _ _) (by unfold maxLen; omega) (by omega) (by have := (unhide GT).bel.size; simp; omega) ?_; intro v1 w1 own1 gr1 _; have GA1 := hide ((unhide GT).app own1 gr1 rfl); clear own1 gr1) | fail)
              go_roundw
              case rel => exact ⟨q + 1, by omega, by go_num, unhide GA1⟩
              case measure => simp [intOf]; omega
            · obtain rfl : q = r := by omega
              have hnq : ¬ (q : Int) < (q : Int) := by omega
              obtain ⟨mb, cm, rfl, mds⟩ := gth.mds (by omega)
              have O2 := hide ((unhide OQ).keep gth.bel)
              have P2 := hide ((unhide PQ).below gth.bel)
              have MM := hide mds
              have SO := hide (so_yes (gd_mk hW1 hW2 hH1 hH2 (unhide HN)) (by omega) (by omega) (unhide HR) (mdB_yes (md := fun _ => md) fun _ _ => by have := unhide MD1; omega))
              have I2 := hide ((unhide I0).below (unhide O2).bel)
              clear gth mds GT OQ OB HR M2
              obtain ⟨⟨c0, c1, c2⟩, l0, l1, hgm, hgL⟩ := keepS (unhide O2).img (unhide O2).lst (Below.refl _ _)
              go_upto_region 14 with fail
              go_cut [15, 16] from 66 to 75 (fun v e wx => XI wr W H n F v e wx)
              case first =>
                go_region_held3 (fun w' => (w'.cell? ⟨w.heap.size, 0, none⟩ = some (.int .i64 W) ∧ w'.cell? ⟨w.heap.size, 1, none⟩ = some (.int .i64 H) ∧ w'.cell? ⟨w.heap.size, 2, none⟩ = some (.slice (some ⟨b, off, none⟩) n cap0_2)) ∧ w'.cell? ⟨gL, 0, none⟩ = some (.int .i64 k0) ∧ w'.cell? ⟨gL, 1, none⟩ = some (.int .i64 k1)) (first | go_keep | exact ⟨⟨c04, c14, c24⟩, l04, l14⟩ | exact keepT (by omega) (by omega) ⟨⟨c04, c14, c24⟩, l04, l14⟩) ((go_at_call 8; refine (forth8 (k := k1) cap0_2 cm ((unhide I2).below (by first | exact bel_dr (bel_a1 _ _) | exact bel_dr (Below.refl _ _) | exact bel_a1 _ _ | exact Below.refl _ _)) ((unhide MM).below (by first | exact bel_dr (bel_a1 _ _) | exact bel_dr (Below.refl _ _) | exact bel_a1 _ _ | exact Below.refl _ _)) (by omega) (by omega) (unhide SO)).mono ?_; rintro e w4 ⟨g', rfl, G4⟩; have B4 : Hid (Below wr.heap.size wr w4) := hide (bel_into (by first | exact bel_dr (bel_a1 _ _) | exact bel_dr (Below.refl _ _) | exact bel_a1 _ _ | exact Below.refl _ _) G4.bel); obtain ⟨⟨c04, c14, c24⟩, l04, l14, hgm4, hgL4⟩ := keepS (unhide O2).img (unhide O2).lst (unhide B4); have P4 := hide (G4.row.congr (fun i hi => (fo_one W k1 2 (md' := fun _ => md) z rfl).trans (congrFun (unhide HF) i))); have N4 := hide G4.new; (first | (have n4 := box_made G4.bel; have Z4 := hide n4; obtain ⟨⟨z04, z14, z24⟩, y04, y14, y24⟩ := box_cells n4; have hz4 := n4.lt; clear n4) | skip); clear G4))
                all_goals go_wp2_with fail
                all_goals go_meet
                all_goals first | exact xi_mk (unhide P4) (Nat.le_trans (by first | exact Nat.le_refl _ | (simp; done)) (unhide N4)) (unhide B4) | exact xi_set (unhide Z4) (unhide P4) (by have h := unhide N4; simp at h; omega) (by have h := unhide N4; simp at h; omega) (by omega) (unhide B4)
              case rest =>
                obtain ⟨⟨gx, g', rfl, rfl, bx, pw, hg'⟩, bel⟩ := hcut
                have O3 := hide ((unhide O2).keep bel)
                have P3 := hide ((unhide P2).below bel)
                have PX := hide pw
                have HG' := hide (show gB < g' by have := (unhide O2).out.lt; omega)
                obtain ⟨⟨x0, x1, x2⟩, _⟩ := box_cells bx
                have hx := bx.lt
                have ho := (unhide O3).out.lt
                have q3 : wc.cell? ⟨gB, 3, none⟩ = some (.int .i64 0) := (unhide O3).out.cell 3
                have q4 : wc.cell? ⟨gB, 4, none⟩ = some (.int .i64 0) := (unhide O3).out.cell 4
                have q5 : wc.cell? ⟨gB, 5, none⟩ = some (.slice none 0 0) := (unhide O3).out.cell 5
                have f0 := (unhide O3).out.free 3
                have f1 := (unhide O3).out.free 4
                have f2 := (unhide O3).out.free 5
                clear bx pw hg' bel c0 c1 c2 l0 l1 hgm hgL
                go_wp2
                go_roundw
                case rel => exact .inr (.inr ⟨by go_num, g1, g', (unhide O3).put (unhide HB) (unhide HL) 3 _ _ _, pow_put (i := 3) (unhide P3) (unhide HG1), pow_put (i := 3) (unhide PX) (unhide HG')⟩)
                case measure => simp [intOf]
        · have OB := hide O
          have P1 := hide p1
          have P2 := hide p2
          clear O p1 p2
          go_wp2_with fail
          refine (ans7 _).mono ?_
          rintro e w2 ⟨rfl, b2⟩
          have O2 := hide ((unhide OB).keep b2)
          have Q1 := hide ((unhide P1).below b2)
          have Q2 := hide ((unhide P2).below b2)
          have hgB := (unhide O2).out.lt
          have q0 : w2.cell? ⟨gB, 0, none⟩ = some (.int .i64 W) := (unhide O2).out.cell 0
          have q1 : w2.cell? ⟨gB, 1, none⟩ = some (.int .i64 H) := (unhide O2).out.cell 1
          have q2 : w2.cell? ⟨gB, 2, none⟩ = some (.slice (some ⟨g1, 0, none⟩) n n) := (unhide O2).out.cell 2
          have q3 : w2.cell? ⟨gB, 3, none⟩ = some (.int .i64 W) := (unhide O2).out.cell 3
          have q4 : w2.cell? ⟨gB, 4, none⟩ = some (.int .i64 H) := (unhide O2).out.cell 4
          have q5 : w2.cell? ⟨gB, 5, none⟩ = some (.slice (some ⟨g2, 0, none⟩) n n) := (unhide O2).out.cell 5
          clear b2 OB P1 P2
          go_wp2_with fail
          refine (rsame12 W H n n (unhide Q1).pixs (unhide Q2).pixs (by omega)).mono ?_
          rintro e w3 ⟨rfl, b3⟩
          have B3 := hide (bel_into (unhide O2).bel b3)
          clear b3
          go_wp2
          go_ret
          exact ⟨rfl, unhide B3⟩
  · have HG := hide hg
    clear hg w0_2
    go_enter Try.func5, Try.ntmps5
    go_wp2_with fail
    refine (rgood25 _ _ _ _ _ _).mono ?_
    rintro e w1 ⟨rfl, b1⟩
    obtain ⟨c0, c1, c2⟩ := keep_image (unhide BX) b1
    have B1 := hide (below_two (unhide BL) b1)
    clear b1
    rw [unhide HG]
    go_wp2_with fail
    refine (ans7 _).mono ?_
    rintro e w2 ⟨rfl, b2⟩
    have B2 := hide (below_two (unhide B1) b2)
    clear b2
    go_wp2
    go_ret
    exact ⟨rfl, unhide B2⟩

set_option maxRecDepth 100000 in
theorem lifted (os : Os) (started : os.Started) (H : Type) (enc : TypeId × Value → H) :
    ReturnsInHanded {} Try.checked os 5 .any (Rows.leanOneSpec.pre6 enc Try.prog Try.f5 Rows.leanOneRow.domain false) (Rows.leanOneSpec.post enc Try.prog Try.f5 false true false false) := by
  refine returnsInHanded_of_change (C := Try.checked) own started (by kernel_rfl) Try.func5
    (ChangeSpec.witness6 (enc := enc) (C := Try.checked) false ⟨#[], #[.agg #[.int .i64 0, .int .i64 0, .slice none 0 0], .int .u8 0, .int .u8 0, .int .u8 0], []⟩ 8 (by kernel_rfl) (by kernel_rfl) (by kernel_rfl) (by kernel_rfl)) ?_
  intro W base args ds gs before hval0 hW hcnd _
  have hval : ∀ (j : Nat) t v, Try.f5.params[j]? = some t → args[j]? = some v → Value.okWide Try.prog W .any base t v := hval0
  have hW' := hW
  obtain ⟨p, q, hA0, hV, rfl, hfz, hnd⟩ := hW
  have hA : DataW.TrodAll enc Try.prog W 0 (fun _ => true) true Try.f5.params.toList args.toList ds p := hA0
  rw [Try.params5] at hA hval
  obtain ⟨v0, vs0, d0, ds0, p0, q0, hargs, rfl, rfl, h0, r0⟩ := trodAll_cons hA
  obtain ⟨v1, vs1, d1, ds1, p1, q1, rfl, rfl, rfl, h1, r1⟩ := trodAll_cons r0
  obtain ⟨v2, vs2, d2, ds2, p2, q2, rfl, rfl, rfl, h2, r2⟩ := trodAll_cons r1
  obtain ⟨v3, vs3, d3, ds3, p3, q3, rfl, rfl, rfl, h3, r3⟩ := trodAll_cons r2
  obtain ⟨rfl, rfl, rfl⟩ := trodAll_nil r3
  obtain rfl : args = #[v0, v1, v2, v3] := by cases args; simp_all
  obtain ⟨rfl, rfl⟩ := trodVars_none hV
  have k0 := h0
  have lt0 : ∀ x ∈ p0, x.block < W.heap.size := by obtain ⟨m, hm⟩ := k0; exact DataW.trod_lt m _ _ _ hm
  obtain ⟨c0_0, c0_1, c0_2, y0_0, y0_1, y0_2, m0, rfl, _, _, hy0_0, hy0_1, hy0_2⟩ := Go.Joins.open_agg3 Try.underlying24 (by kernel_rfl) (by kernel_rfl) (hval 0 24 v0 rfl rfl) h0
  obtain ⟨a0_0, e0_0, _, w0_0⟩ := DataW.trod_int Try.underlying3 hy0_0
  simp only [List.cons.injEq, and_true] at e0_0
  subst e0_0
  obtain ⟨a0_1, e0_1, _, w0_1⟩ := DataW.trod_int Try.underlying3 hy0_1
  simp only [List.cons.injEq, and_true] at e0_1
  subst e0_1
  obtain ⟨a0_2, len0_2, cap0_2, e0_2⟩ := Go.Joins.slice_form Try.underlying22 hy0_2
  simp only [List.cons.injEq, and_true] at e0_2
  subst e0_2
  obtain ⟨z0_2, w0_2⟩ : ∃ zs, IsRow .u32 W a0_2 len0_2 cap0_2 zs := by
    rcases open_ints Try.underlying22 Try.underlying38 (by kernel_rfl) hy0_2 with ⟨hcs, _⟩ | ⟨x, l, c, zs, hcs, _, hl, hm, hz, _, hcell, hwz⟩
    · simp at hcs
      obtain ⟨rfl, rfl, rfl⟩ := hcs
      exact ⟨[], .inl ⟨rfl, rfl, rfl, rfl⟩⟩
    · simp at hcs
      obtain ⟨rfl, rfl, rfl⟩ := hcs
      exact ⟨zs, .inr ⟨_, rfl, hl, hm, by simpa using hz, hcell, hwz⟩⟩
  obtain ⟨a1, rfl, rfl, rfl, w1⟩ := open_int Try.underlying5 (hval 1 5 v1 rfl rfl) h1
  obtain ⟨a2, rfl, rfl, rfl, w2⟩ := open_int Try.underlying5 (hval 2 5 v2 rfl rfl) h2
  obtain ⟨a3, rfl, rfl, rfl, w3⟩ := open_int Try.underlying5 (hval 3 5 v3 rfl rfl) h3
  clear hA0 hval0
  refine (walk a0_0 a0_1 a0_2 len0_2 cap0_2 z0_2 a1 a2 a3 W w0_0 w0_1 w0_2 w1 w2 w3).mono fun e W' ⟨he, bel⟩ => ?_
  subst he
  exact ⟨_, rfl, _, _, _, [], _, [], hW', trodAll_mk1 (shut_bool Try.underlying4 _), (trodAll_cons_mk (Below.trod laidOut (by kernel_rfl) (of_decide_eq_true (by kernel_rfl)) k0 bel lt0) (trodAll_cons_mk (shut_int Try.underlying5 w1) (trodAll_cons_mk (shut_int Try.underlying5 w2) (trodAll_cons_mk (shut_int Try.underlying5 w3) trodAll_mk0)))), rfl, bel.frame _, fun h => by cases h⟩

theorem over : Rows.leanOneRow.holds Try.pinned (OpenSpec.ofChange Rows.leanOneSpec) :=
  OpenClaim.holds_of_wide 5 Try.f5 rfl rfl rfl rfl rfl rfl rfl ⟨rfl, rfl, rfl, rfl, rfl⟩ rfl rfl rfl rfl rfl (by kernel_rfl) Try.func5 (by kernel_rfl)
    (of_decide_eq_true (by kernel_rfl)) (by unfold Func.isWrapper; first | (rw [if_pos (by decide +kernel)]; kernel_rfl) | (rw [if_neg (by decide +kernel)]; exact ⟨rfl, rfl⟩))
    (fun os started H enc _ => lifted os started H enc)

/-- The statement. -/
theorem proved : Rows.LeanOneSaid := over
#print axioms proved
end Go.Proofs.Ytnfokdcoelignaa.leanOne
