/-
  What is proved: How much narrower a picture is by how many colours it has, and the argument is as it was: the Go function TableSizes of the statements of layer 16 returns true for all arguments.
  Conditions: none.
-/
import Derived.Test.YtflmlbdcjjldgaaRows
import Derived.Test.YtflmlbdcjjldgaaTAns
import Derived.Test.YtflmlbdcjjldgaaTFin
import Derived.WalkKit
import Derived.ProofKit
import Derived.OpenShut
import Derived.ShutString
import Derived.ChangeOld
import Derived.Below
import Derived.Deep.Grids
import Derived.Lib.SmallJoins
namespace Go.Proofs.Ytflmlbdcjjldgaa.tableSizes
open Go.ChangeShapes Go.WideShapes Go.ChangeAt Go.RowKit
open Go.Proofs.Ytflmlbdcjjldgaa.Core Go.Proofs.Ytflmlbdcjjldgaa.LBlk Go.Proofs.Ytflmlbdcjjldgaa.PNum Go.Proofs.Ytflmlbdcjjldgaa.PGoo Go.Proofs.Ytflmlbdcjjldgaa.Ims Go.Proofs.Ytflmlbdcjjldgaa.TNum Go.Proofs.Ytflmlbdcjjldgaa.TPkn Go.Proofs.Ytflmlbdcjjldgaa.TSet Go.Proofs.Ytflmlbdcjjldgaa.TCol Go.Proofs.Ytflmlbdcjjldgaa.TPak Go.Proofs.Ytflmlbdcjjldgaa.TUnp Go.Proofs.Ytflmlbdcjjldgaa.TAns Go.Proofs.Ytflmlbdcjjldgaa.TFin
open Go.ChangeMaps (open_string shut_string)
set_option linter.unusedVariables false

theorem own : ownKnob Try.prog.godebug = none := by kernel_rfl
theorem laidOut : laidOutB Try.prog = true := by kernel_rfl

/-- A slice of integers that came in: nil, or a row of cells, each fitting its kind. -/
def IsRow (k : IntKind) (w : World) (a : Option Addr) (len cap : Nat) (zs : List Int) : Prop :=
  (a = none ∧ len = 0 ∧ cap = 0 ∧ zs = []) ∨
  ∃ x, a = some x ∧ len ≤ cap ∧ cap ≤ maxLen ∧ zs.length = cap ∧ (∀ i, i < zs.length → w.cell? (x.add i) = some (.int k (zs.getD i 0))) ∧ ∀ n ∈ zs, (Lit.int k n).wf = true
/-- A slice of bools that came in. -/
def IsBools (w : World) (a : Option Addr) (len cap : Nat) (B : Nat → Bool) : Prop :=
  (a = none ∧ len = 0 ∧ cap = 0) ∨ ∃ x, a = some x ∧ len ≤ cap ∧ cap ≤ maxLen ∧ ∀ i, i < cap → w.cell? (x.add i) = some (.bool (B i))
open Go.Sort
theorem col_yes {W H b off n : Nat} {z : Nat → Nat} (c : Nat) {w : World} (I : Img w W H b off n z) (hz : ∀ i, i < n → z i < 4294967296) (h1 : 1 ≤ W) (h2 : 1 ≤ H) (hn : n ≤ 60000) (hl : (ds z n).length ≤ 256) :
    Calls Try.prog 9 #[.agg #[.int .i64 W, .int .i64 H, .slice (some ⟨b, off, none⟩) n c]] w fun e w' => ∃ g cap, e = .returned (.tuple #[.slice (some ⟨g, 0, none⟩) (ds z n).length cap, .bool true]) ∧ Pow w' g (ds z n).length (ct z n) ∧ Below w.heap.size w w' :=
  (colors9 c I hz h1 h2 hn).mono fun e w' hk => by
    unfold ColV at hk
    rw [if_pos hl] at hk
    obtain ⟨g, cap, he, hp, _, hb⟩ := hk
    exact ⟨g, cap, he, hp, hb⟩
theorem col_no {W H b off n : Nat} {z : Nat → Nat} (c : Nat) {w : World} (I : Img w W H b off n z) (hz : ∀ i, i < n → z i < 4294967296) (h1 : 1 ≤ W) (h2 : 1 ≤ H) (hn : n ≤ 60000) (hl : ¬ (ds z n).length ≤ 256) :
    Calls Try.prog 9 #[.agg #[.int .i64 W, .int .i64 H, .slice (some ⟨b, off, none⟩) n c]] w fun e w' => e = .returned (.tuple #[.slice none 0 0, .bool false]) ∧ Below w.heap.size w w' :=
  (colors9 c I hz h1 h2 hn).mono fun e w' hk => by
    unfold ColV at hk
    rw [if_neg hl] at hk
    exact hk
theorem pak_yes {W H b off m tb n : Nat} {z t : Nat → Nat} (c c' : Nat) {w : World} (I : Img w W H b off m z) (hz : ∀ i, i < m → z i < 4294967296) (h1 : 1 ≤ W) (h2 : 1 ≤ H) (hm : m ≤ 60000)
    (T : Pow w tb n t) (htt : ∀ i, i < n → t i < 4294967296) (t1 : 1 ≤ n) (t2 : n ≤ 256) (hf : ∀ i, i < m → nm t n (z i) < n) :
    Calls Try.prog 17 #[.agg #[.int .i64 W, .int .i64 H, .slice (some ⟨b, off, none⟩) m c], .slice (some ⟨tb, 0, none⟩) n c'] w fun e w' =>
      ∃ g, e = .returned (.tuple #[.agg #[.int .i64 (bl W (bv n)), .int .i64 H, .slice (some ⟨g, 0, none⟩) (bl W (bv n) * H) (bl W (bv n) * H)], .int .i64 0]) ∧ Gives w (bl W (bv n) * H) g (pk t n z W (bv n) m) w' :=
  (pack17 c c' I hz h1 h2 hm T.pixs htt t1 t2).mono fun e w' hk => by
    unfold PakV at hk
    rw [if_pos hf] at hk
    exact hk
set_option maxRecDepth 20000 in
set_option maxHeartbeats 1000000 in
theorem walk (a0_0 : Int) (a0_1 : Int) (a0_2 : Option Addr) (len0_2 cap0_2 : Nat) (z0_2 : List Int) (w : World) (w0_0 : (Lit.int .i64 a0_0).wf = true) (w0_1 : (Lit.int .i64 a0_1).wf = true) (w0_2 : IsRow .u32 w a0_2 len0_2 cap0_2 z0_2) :
    Calls Try.prog 6 #[.agg #[.int .i64 a0_0, .int .i64 a0_1, .slice a0_2 len0_2 cap0_2]] w fun e w' => e = .returned (.bool true) ∧ Below w.heap.size w w' := by
  have BL := hide (bel_a1 w (.cells #[.int .i64 a0_0, .int .i64 a0_1, .slice a0_2 len0_2 cap0_2] 24))
  have BX := hide (Box.made w 24 #[.int .i64 a0_0, .int .i64 a0_1, .slice a0_2 len0_2 cap0_2])
  clear w0_0 w0_1
  by_cases hbig : 2000 < len0_2
  · clear w0_2
    go_enter Try.func6, Try.ntmps6
    go_wp2_with fail
    refine (ans8 _).mono ?_
    rintro e w9 ⟨rfl, b9⟩
    have B9 := hide (bel_into (unhide BL) b9)
    clear b9
    go_wp2
    go_ret
    exact ⟨rfl, unhide B9⟩
  · have hsm : len0_2 ≤ 2000 := by omega
    clear hbig
    rcases Bool.eq_false_or_eq_true (gdV a0_0 a0_1 len0_2) with hg | hg
    · obtain ⟨b, off, z, W, H, rfl, rfl, rfl, I, hW1, hH1, zb⟩ := img_of w0_2 hg
      obtain ⟨n, hne⟩ : ∃ n, n = len0_2 := ⟨_, rfl⟩
      subst hne
      have I0 := hide I
      have ZB := hide zb
      have ltb : b < w.heap.size := I.px.lt (by rw [I.hn]; exact Nat.mul_pos hW1 hH1)
      by_cases hl : (ds z n).length ≤ 256
      · have K := hide (col_yes cap0_2 ((unhide I0).below (unhide BL)) zb hW1 hH1 (by omega) hl)
        have L0 := ct_pos (z := z) (n := n) (by rw [I.hn]; exact Nat.mul_pos hW1 hH1)
        have NM := hide (nm_ct z n)
        have CL := hide (ct_lt zb)
        clear I zb hg w0_2
        obtain ⟨L, hL⟩ : ∃ L, L = (ds z n).length := ⟨_, rfl⟩
        rw [← hL] at K L0 NM CL hl
        clear hL
        go_enter Try.func6, Try.ntmps6
        go_wp2_with fail
        refine (unhide K).mono ?_
        rintro e w1 ⟨g1, cap1, rfl, p1, b1⟩
        have X1 := hide ((unhide BX).below b1 (unhide BX).lt)
        have B1 := hide (bel_into (unhide BL) b1)
        have P1 := hide p1
        have K2 := hide (pak_yes cap0_2 cap1 ((unhide I0).below (unhide B1)) (unhide ZB) hW1 hH1 (by omega) p1 (unhide CL) L0 hl (unhide NM))
        obtain ⟨⟨c0, c1, c2⟩, _⟩ := box_cells (unhide X1)
        clear p1 b1 K BX BL
        go_wp2_with fail
        refine (unhide K2).mono ?_
        rintro e w2 ⟨g2, rfl, gv⟩
        obtain ⟨wd, hwd⟩ : ∃ wd, wd = bl W (bv L) := ⟨_, rfl⟩
        have hb3 : bv L ≤ 3 := bv_le _
        have GB0 : ∀ j, j < bl W (bv L) * H → pg (ct z n) L z W (bv L) n j < 256 := fun j hj => pg_byte hb3 hW1 hj fun i hi => num_fits hl (unhide NM i (by rw [(unhide I0).hn]; exact hi))
        have row0 : Pow w2 g2 (bl W (bv L) * H) (fun j => 4278190080 + 256 * pg (ct z n) L z W (bv L) n j) := gv.row
        rw [← hwd] at GB0 row0 ⊢
        obtain ⟨GG, hGG⟩ : ∃ GG : Nat → Nat, GG = pg (ct z n) L z W (bv L) n := ⟨_, rfl⟩
        rw [← hGG] at GB0 row0
        clear hGG
        have GB := hide GB0
        have HWD := hide hwd
        obtain ⟨N, hN⟩ : ∃ N, N = wd * H := ⟨_, rfl⟩
        rw [← hN] at GB row0 ⊢
        have X2 := hide (((unhide X1).below gv.bel (unhide X1).lt).alloc (.cells #[.int .i64 wd, .int .i64 H, .slice (some ⟨g2, 0, none⟩) N N] 24))
        have Y2 := hide (Box.made w2 24 #[.int .i64 wd, .int .i64 H, .slice (some ⟨g2, 0, none⟩) N N])
        have A2 := bel_a1 w2 (.cells #[.int .i64 wd, .int .i64 H, .slice (some ⟨g2, 0, none⟩) N N] 24)
        have R3 := hide (row0.below A2)
        have B3 := hide (bel_into (bel_into (unhide B1) gv.bel) A2)
        have W16 : W ≤ 16384 := (unhide I0).hW
        have H16 : H ≤ 16384 := (unhide I0).hH
        have N6 : (N : Int) ≤ 1000000 := by
          have h1 : wd ≤ W := by rw [hwd]; exact bl_le W _
          have h2 := Nat.mul_le_mul_right H h1
          have h3 := (unhide I0).hn
          omega
        clear gv row0 A2 GB0 hwd c0 c1 c2 X1 B1 P1 K2 hN
        go_upto_region 7 with fail
        obtain ⟨⟨c0, c1, c2⟩, _⟩ := box_cells (unhide X2)
        obtain ⟨⟨x0c, x1c, x2c⟩, _⟩ := box_cells (unhide Y2)
        generalize w2.heap.size = gx at *
        generalize w2.alloc (.cells #[.int .i64 wd, .int .i64 H, .slice (some ⟨g2, 0, none⟩) N N] 24) = w3 at *
        have LL : (L ≤ 2 ∧ bv L = 3) ∨ (2 < L ∧ L ≤ 4 ∧ bv L = 2) ∨ (4 < L ∧ L ≤ 16 ∧ bv L = 1) ∨ (16 < L ∧ bv L = 0) := by
          unfold bv bvI
          rcases Nat.lt_or_ge 16 L with h | h
          · right; right; right; refine ⟨h, ?_⟩; rw [if_neg (by omega), if_neg (by omega), if_neg (by omega)]
          · rcases Nat.lt_or_ge 4 L with h4 | h4
            · right; right; left; refine ⟨h4, h, ?_⟩; rw [if_neg (by omega), if_neg (by omega), if_pos (by omega)]
            · rcases Nat.lt_or_ge 2 L with h2 | h2
              · right; left; refine ⟨h2, h4, ?_⟩; rw [if_neg (by omega), if_pos (by omega)]
              · left; refine ⟨h2, ?_⟩; rw [if_pos (by omega)]
        have LLH := hide LL
        clear LL
        rcases unhide LLH with ⟨l1, hb⟩ | ⟨l1, l2, hb⟩ | ⟨l1, l2, hb⟩ | ⟨l1, hb⟩
        · skip
          have hw : wd = (W + 8 - 1) / 8 := by rw [unhide HWD, hb]; rfl
          have q0 : ((W : Int) + 8 - 1) / 8 = (wd : Int) := by omega
          have q1 : ((W : Int) + 7) / 8 = (wd : Int) := by omega
          have q2 : ((W : Int) + 8 - 1).tdiv 8 = (wd : Int) := by rw [Int.tdiv_eq_ediv_of_nonneg (by omega)]; omega
          have q3 : ((W : Int) + 7).tdiv 8 = (wd : Int) := by rw [Int.tdiv_eq_ediv_of_nonneg (by omega)]; omega
          have HWW := hide hw
          clear hw hb
          have t1 : (L : Int) ≤ 16 := by omega
          have t2 : (L : Int) ≤ 4 := by omega
          have t3 : (L : Int) ≤ 2 := by omega
          go_wp2
          go_loopw [8] (fun v wr => ∃ j : Nat, v = .int .i64 j ∧ j ≤ N ∧ wr = w3) (fun v _ => N - (intOf v).toNat)
          case atStart => exact ⟨0, rfl, Nat.zero_le _, rfl⟩
          case round =>
            obtain ⟨j, rfl, hj, hwr⟩ := hrel
            subst hwr
            by_cases hlt : j < N
            · have hlt' : (j : Int) < (N : Int) := by omega
              have pj := (unhide R3) j hlt
              have pc : wr.cell? ⟨g2, j, none⟩ = some (.int .u32 (4278190080 + 256 * GG j : Nat)) := pj.1
              have pm := pk_mask (unhide GB j hlt)
              clear pj
              generalize 4278190080 + 256 * GG j = P at *
              go_wp2
              go_roundw
              case rel => exact ⟨j + 1, by go_num, by omega, by first | rfl | trivial⟩
              case measure => simp [intOf]; omega
            · obtain rfl : j = N := by omega
              have k0 := cell_regrown x0c
              have k1 := cell_regrown x1c
              have k3 := cell_regrown c0
              have k4 := cell_regrown c1
              have q9 : ∀ dd os, Calls Try.prog 8 #[] (grow (redrawn wr dd) os) fun e w'' => e = .returned (.bool true) ∧ ∃ p : Regrown, w'' = grow (redrawn wr p.d) p.os := fun dd os => Calls.regrown_of (ans8 _)
              have Q9 := hide q9
              clear q9
              go_upto_region 19 with fail
              clear x0c x1c x2c c0 c1 c2
              refine wp_region_quiet_below (by kernel_rfl) (by kernel_rfl) ?_
              repeat (go_big_quiet_step (first | (go_at_call 8; with_reducible exact unhide Q9 _ _)))
              refine wpQuiet_nil ?_
              intro _ hw'
              obtain ⟨⟨dq, osq⟩, hw''⟩ := hw'
              subst hw''
              go_wp2
              go_ret
              exact ⟨rfl, bel_into (unhide B3) (below_regrown wr dq osq)⟩
        · skip
          have hw : wd = (W + 4 - 1) / 4 := by rw [unhide HWD, hb]; rfl
          have q0 : ((W : Int) + 4 - 1) / 4 = (wd : Int) := by omega
          have q1 : ((W : Int) + 3) / 4 = (wd : Int) := by omega
          have q2 : ((W : Int) + 4 - 1).tdiv 4 = (wd : Int) := by rw [Int.tdiv_eq_ediv_of_nonneg (by omega)]; omega
          have q3 : ((W : Int) + 3).tdiv 4 = (wd : Int) := by rw [Int.tdiv_eq_ediv_of_nonneg (by omega)]; omega
          have HWW := hide hw
          clear hw hb
          have t1 : (L : Int) ≤ 16 := by omega
          have t2 : (L : Int) ≤ 4 := by omega
          have t3 : ¬ (L : Int) ≤ 2 := by omega
          go_wp2
          go_loopw [8] (fun v wr => ∃ j : Nat, v = .int .i64 j ∧ j ≤ N ∧ wr = w3) (fun v _ => N - (intOf v).toNat)
          case atStart => exact ⟨0, rfl, Nat.zero_le _, rfl⟩
          case round =>
            obtain ⟨j, rfl, hj, hwr⟩ := hrel
            subst hwr
            by_cases hlt : j < N
            · have hlt' : (j : Int) < (N : Int) := by omega
              have pj := (unhide R3) j hlt
              have pc : wr.cell? ⟨g2, j, none⟩ = some (.int .u32 (4278190080 + 256 * GG j : Nat)) := pj.1
              have pm := pk_mask (unhide GB j hlt)
              clear pj
              generalize 4278190080 + 256 * GG j = P at *
              go_wp2
              go_roundw
              case rel => exact ⟨j + 1, by go_num, by omega, by first | rfl | trivial⟩
              case measure => simp [intOf]; omega
            · obtain rfl : j = N := by omega
              have k0 := cell_regrown x0c
              have k1 := cell_regrown x1c
              have k3 := cell_regrown c0
              have k4 := cell_regrown c1
              have q9 : ∀ dd os, Calls Try.prog 8 #[] (grow (redrawn wr dd) os) fun e w'' => e = .returned (.bool true) ∧ ∃ p : Regrown, w'' = grow (redrawn wr p.d) p.os := fun dd os => Calls.regrown_of (ans8 _)
              have Q9 := hide q9
              clear q9
              go_upto_region 19 with fail
              clear x0c x1c x2c c0 c1 c2
              refine wp_region_quiet_below (by kernel_rfl) (by kernel_rfl) ?_
              repeat (go_big_quiet_step (first | (go_at_call 8; with_reducible exact unhide Q9 _ _)))
              refine wpQuiet_nil ?_
              intro _ hw'
              obtain ⟨⟨dq, osq⟩, hw''⟩ := hw'
              subst hw''
              go_wp2
              go_ret
              exact ⟨rfl, bel_into (unhide B3) (below_regrown wr dq osq)⟩
        · skip
          have hw : wd = (W + 2 - 1) / 2 := by rw [unhide HWD, hb]; rfl
          have q0 : ((W : Int) + 2 - 1) / 2 = (wd : Int) := by omega
          have q1 : ((W : Int) + 1) / 2 = (wd : Int) := by omega
          have q2 : ((W : Int) + 2 - 1).tdiv 2 = (wd : Int) := by rw [Int.tdiv_eq_ediv_of_nonneg (by omega)]; omega
          have q3 : ((W : Int) + 1).tdiv 2 = (wd : Int) := by rw [Int.tdiv_eq_ediv_of_nonneg (by omega)]; omega
          have HWW := hide hw
          clear hw hb
          have t1 : (L : Int) ≤ 16 := by omega
          have t2 : ¬ (L : Int) ≤ 4 := by omega
          have t3 : ¬ (L : Int) ≤ 2 := by omega
          go_wp2
          go_loopw [8] (fun v wr => ∃ j : Nat, v = .int .i64 j ∧ j ≤ N ∧ wr = w3) (fun v _ => N - (intOf v).toNat)
          case atStart => exact ⟨0, rfl, Nat.zero_le _, rfl⟩
          case round =>
            obtain ⟨j, rfl, hj, hwr⟩ := hrel
            subst hwr
            by_cases hlt : j < N
            · have hlt' : (j : Int) < (N : Int) := by omega
              have pj := (unhide R3) j hlt
              have pc : wr.cell? ⟨g2, j, none⟩ = some (.int .u32 (4278190080 + 256 * GG j : Nat)) := pj.1
              have pm := pk_mask (unhide GB j hlt)
              clear pj
              generalize 4278190080 + 256 * GG j = P at *
              go_wp2
              go_roundw
              case rel => exact ⟨j + 1, by go_num, by omega, by first | rfl | trivial⟩
              case measure => simp [intOf]; omega
            · obtain rfl : j = N := by omega
              have k0 := cell_regrown x0c
              have k1 := cell_regrown x1c
              have k3 := cell_regrown c0
              have k4 := cell_regrown c1
              have q9 : ∀ dd os, Calls Try.prog 8 #[] (grow (redrawn wr dd) os) fun e w'' => e = .returned (.bool true) ∧ ∃ p : Regrown, w'' = grow (redrawn wr p.d) p.os := fun dd os => Calls.regrown_of (ans8 _)
              have Q9 := hide q9
              clear q9
              go_upto_region 19 with fail
              clear x0c x1c x2c c0 c1 c2
              refine wp_region_quiet_below (by kernel_rfl) (by kernel_rfl) ?_
              repeat (go_big_quiet_step (first | (go_at_call 8; with_reducible exact unhide Q9 _ _)))
              refine wpQuiet_nil ?_
              intro _ hw'
              obtain ⟨⟨dq, osq⟩, hw''⟩ := hw'
              subst hw''
              go_wp2
              go_ret
              exact ⟨rfl, bel_into (unhide B3) (below_regrown wr dq osq)⟩
        · skip
          have hw : wd = (W + 1 - 1) / 1 := by rw [unhide HWD, hb]; rfl
          have q0 : (W : Int) = (wd : Int) := by omega
          have HWW := hide hw
          clear hw hb
          have t1 : ¬ (L : Int) ≤ 16 := by omega
          have t2 : ¬ (L : Int) ≤ 4 := by omega
          have t3 : ¬ (L : Int) ≤ 2 := by omega
          go_wp2
          go_loopw [8] (fun v wr => ∃ j : Nat, v = .int .i64 j ∧ j ≤ N ∧ wr = w3) (fun v _ => N - (intOf v).toNat)
          case atStart => exact ⟨0, rfl, Nat.zero_le _, rfl⟩
          case round =>
            obtain ⟨j, rfl, hj, hwr⟩ := hrel
            subst hwr
            by_cases hlt : j < N
            · have hlt' : (j : Int) < (N : Int) := by omega
              have pj := (unhide R3) j hlt
              have pc : wr.cell? ⟨g2, j, none⟩ = some (.int .u32 (4278190080 + 256 * GG j : Nat)) := pj.1
              have pm := pk_mask (unhide GB j hlt)
              clear pj
              generalize 4278190080 + 256 * GG j = P at *
              go_wp2
              go_roundw
              case rel => exact ⟨j + 1, by go_num, by omega, by first | rfl | trivial⟩
              case measure => simp [intOf]; omega
            · obtain rfl : j = N := by omega
              have k0 := cell_regrown x0c
              have k1 := cell_regrown x1c
              have k3 := cell_regrown c0
              have k4 := cell_regrown c1
              have q9 : ∀ dd os, Calls Try.prog 8 #[] (grow (redrawn wr dd) os) fun e w'' => e = .returned (.bool true) ∧ ∃ p : Regrown, w'' = grow (redrawn wr p.d) p.os := fun dd os => Calls.regrown_of (ans8 _)
              have Q9 := hide q9
              clear q9
              go_upto_region 19 with fail
              clear x0c x1c x2c c0 c1 c2
              refine wp_region_quiet_below (by kernel_rfl) (by kernel_rfl) ?_
              repeat (go_big_quiet_step (first | (go_at_call 8; with_reducible exact unhide Q9 _ _)))
              refine wpQuiet_nil ?_
              intro _ hw'
              obtain ⟨⟨dq, osq⟩, hw''⟩ := hw'
              subst hw''
              go_wp2
              go_ret
              exact ⟨rfl, bel_into (unhide B3) (below_regrown wr dq osq)⟩
      · have K := hide (col_no cap0_2 ((unhide I0).below (unhide BL)) zb hW1 hH1 (by omega) hl)
        clear I zb hg w0_2
        go_enter Try.func6, Try.ntmps6
        go_wp2_with fail
        refine (unhide K).mono ?_
        rintro e w1 ⟨rfl, b1⟩
        have B1 := hide (bel_into (unhide BL) b1)
        clear b1 K
        go_wp2_with fail
        refine (ans8 _).mono ?_
        rintro e w9 ⟨rfl, b9⟩
        have B9 := hide (bel_into (unhide B1) b9)
        clear b9
        go_wp2
        go_ret
        exact ⟨rfl, unhide B9⟩
    · have K := hide (fun w => colors9_no (W := a0_0) (H := a0_1) a0_2 len0_2 cap0_2 w hg)
      clear hg w0_2
      go_enter Try.func6, Try.ntmps6
      go_wp2_with fail
      refine (unhide K _).mono ?_
      rintro e w1 ⟨rfl, b1⟩
      have B1 := hide (bel_into (unhide BL) b1)
      clear b1 K
      go_wp2_with fail
      refine (ans8 _).mono ?_
      rintro e w9 ⟨rfl, b9⟩
      have B9 := hide (bel_into (unhide B1) b9)
      clear b9
      go_wp2
      go_ret
      exact ⟨rfl, unhide B9⟩

set_option maxRecDepth 100000 in
theorem lifted (os : Os) (started : os.Started) (H : Type) (enc : TypeId × Value → H) :
    ReturnsInHanded {} Try.checked os 6 .any (Rows.tableSizesSpec.pre6 enc Try.prog Try.f6 Rows.tableSizesRow.domain false) (Rows.tableSizesSpec.post enc Try.prog Try.f6 false true false false) := by
  refine returnsInHanded_of_change (C := Try.checked) own started (by kernel_rfl) Try.func6
    (ChangeSpec.witness6 (enc := enc) (C := Try.checked) false ⟨#[], #[.agg #[.int .i64 0, .int .i64 0, .slice none 0 0]], []⟩ 8 (by kernel_rfl) (by kernel_rfl) (by kernel_rfl) (by kernel_rfl)) ?_
  intro W base args ds gs before hval0 hW hcnd _
  have hval : ∀ (j : Nat) t v, Try.f6.params[j]? = some t → args[j]? = some v → Value.okWide Try.prog W .any base t v := hval0
  have hW' := hW
  obtain ⟨p, q, hA0, hV, rfl, hfz, hnd⟩ := hW
  have hA : DataW.TrodAll enc Try.prog W 0 (fun _ => true) true Try.f6.params.toList args.toList ds p := hA0
  rw [Try.params6] at hA hval
  obtain ⟨v0, vs0, d0, ds0, p0, q0, hargs, rfl, rfl, h0, r0⟩ := trodAll_cons hA
  obtain ⟨rfl, rfl, rfl⟩ := trodAll_nil r0
  obtain rfl : args = #[v0] := by cases args; simp_all
  obtain ⟨rfl, rfl⟩ := trodVars_none hV
  have k0 := h0
  have lt0 : ∀ x ∈ p0, x.block < W.heap.size := by obtain ⟨m, hm⟩ := k0; exact DataW.trod_lt m _ _ _ hm
  obtain ⟨c0_0, c0_1, c0_2, y0_0, y0_1, y0_2, m0, rfl, _, _, hy0_0, hy0_1, hy0_2⟩ := Go.Joins.open_agg3 Try.underlying24 (by kernel_rfl) (by kernel_rfl) (hval 0 24 v0 rfl rfl) h0
  obtain ⟨a0_0, e0_0, _, w0_0⟩ := DataW.trod_int Try.underlying3 hy0_0
  simp only [List.cons.injEq, and_true] at e0_0
  subst e0_0
  obtain ⟨a0_1, e0_1, _, w0_1⟩ := DataW.trod_int Try.underlying3 hy0_1
  simp only [List.cons.injEq, and_true] at e0_1
  subst e0_1
  obtain ⟨a0_2, len0_2, cap0_2, e0_2⟩ := Go.Joins.slice_form Try.underlying22 hy0_2
  simp only [List.cons.injEq, and_true] at e0_2
  subst e0_2
  obtain ⟨z0_2, w0_2⟩ : ∃ zs, IsRow .u32 W a0_2 len0_2 cap0_2 zs := by
    rcases open_ints Try.underlying22 Try.underlying31 (by kernel_rfl) hy0_2 with ⟨hcs, _⟩ | ⟨x, l, c, zs, hcs, _, hl, hm, hz, _, hcell, hwz⟩
    · simp at hcs
      obtain ⟨rfl, rfl, rfl⟩ := hcs
      exact ⟨[], .inl ⟨rfl, rfl, rfl, rfl⟩⟩
    · simp at hcs
      obtain ⟨rfl, rfl, rfl⟩ := hcs
      exact ⟨zs, .inr ⟨_, rfl, hl, hm, by simpa using hz, hcell, hwz⟩⟩
  clear hA0 hval0
  refine (walk a0_0 a0_1 a0_2 len0_2 cap0_2 z0_2 W w0_0 w0_1 w0_2).mono fun e W' ⟨he, bel⟩ => ?_
  subst he
  exact ⟨_, rfl, _, _, _, [], _, [], hW', trodAll_mk1 (shut_bool Try.underlying4 _), (trodAll_cons_mk (Below.trod laidOut (by kernel_rfl) (of_decide_eq_true (by kernel_rfl)) k0 bel lt0) trodAll_mk0), rfl, bel.frame _, fun h => by cases h⟩

theorem over : Rows.tableSizesRow.holds Try.pinned (OpenSpec.ofChange Rows.tableSizesSpec) :=
  OpenClaim.holds_of_wide 6 Try.f6 rfl rfl rfl rfl rfl rfl rfl ⟨rfl, rfl, rfl, rfl, rfl⟩ rfl rfl rfl rfl rfl (by kernel_rfl) Try.func6 (by kernel_rfl)
    (of_decide_eq_true (by kernel_rfl)) (by unfold Func.isWrapper; first | (rw [if_pos (by decide +kernel)]; kernel_rfl) | (rw [if_neg (by decide +kernel)]; exact ⟨rfl, rfl⟩))
    (fun os started H enc _ => lifted os started H enc)

/-- The statement. -/
theorem proved : Rows.TableSizesSaid := over
#print axioms proved
end Go.Proofs.Ytflmlbdcjjldgaa.tableSizes
