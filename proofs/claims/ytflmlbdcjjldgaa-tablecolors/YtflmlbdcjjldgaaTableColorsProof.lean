/-
  What is proved: All colours of any image, if they are few, and differences forth and back, and the arguments are as they were: the Go function TableColors of the statements of layer 16 returns true for all arguments.
  Conditions: none.
-/
import Derived.Test.YtflmlbdcjjldgaaRows
import Derived.Test.YtflmlbdcjjldgaaTAns
import Derived.Test.YtflmlbdcjjldgaaTCth
import Derived.WalkKit
import Derived.ProofKit
import Derived.OpenShut
import Derived.ShutString
import Derived.ChangeOld
import Derived.Below
import Derived.Deep.Grids
import Derived.Lib.SmallJoins
namespace Go.Proofs.Ytflmlbdcjjldgaa.tableColors
open Go.ChangeShapes Go.WideShapes Go.ChangeAt Go.RowKit
open Go.Proofs.Ytflmlbdcjjldgaa.Core Go.Proofs.Ytflmlbdcjjldgaa.LBlk Go.Proofs.Ytflmlbdcjjldgaa.PNum Go.Proofs.Ytflmlbdcjjldgaa.PPrt Go.Proofs.Ytflmlbdcjjldgaa.PRfn Go.Proofs.Ytflmlbdcjjldgaa.PGoo Go.Proofs.Ytflmlbdcjjldgaa.Ims Go.Proofs.Ytflmlbdcjjldgaa.TNum Go.Proofs.Ytflmlbdcjjldgaa.TLea Go.Proofs.Ytflmlbdcjjldgaa.TSet Go.Proofs.Ytflmlbdcjjldgaa.TCol Go.Proofs.Ytflmlbdcjjldgaa.TAns Go.Proofs.Ytflmlbdcjjldgaa.TLst Go.Proofs.Ytflmlbdcjjldgaa.TCth
open Go.ChangeMaps (open_string shut_string)
set_option linter.unusedVariables false

theorem own : ownKnob Try.prog.godebug = none := by kernel_rfl
theorem laidOut : laidOutB Try.prog = true := by kernel_rfl

/-- A slice of integers that came in: nil, or a row of cells, each fitting its kind. -/
def IsRow (k : IntKind) (w : World) (a : Option Addr) (len cap : Nat) (zs : List Int) : Prop :=
  (a = none ∧ len = 0 ∧ cap = 0 ∧ zs = []) ∨
  ∃ x, a = some x ∧ len ≤ cap ∧ cap ≤ maxLen ∧ zs.length = cap ∧ (∀ i, i < zs.length → w.cell? (x.add i) = some (.int k (zs.getD i 0))) ∧ ∀ n ∈ zs, (Lit.int k n).wf = true
/-- A slice of bools that came in. -/
def IsBools (w : World) (a : Option Addr) (len cap : Nat) (B : Nat → Bool) : Prop :=
  (a = none ∧ len = 0 ∧ cap = 0) ∨ ∃ x, a = some x ∧ len ≤ cap ∧ cap ≤ maxLen ∧ ∀ i, i < cap → w.cell? (x.add i) = some (.bool (B i))
open Go.Sort
set_option maxRecDepth 20000 in
set_option maxHeartbeats 1000000 in
theorem walk (a0_0 : Int) (a0_1 : Int) (a0_2 : Option Addr) (len0_2 cap0_2 : Nat) (z0_2 : List Int) (a1 : Option Addr) (len1 cap1 : Nat) (z1 : List Int) (a2 : Int) (w : World) (w0_0 : (Lit.int .i64 a0_0).wf = true) (w0_1 : (Lit.int .i64 a0_1).wf = true) (w0_2 : IsRow .u32 w a0_2 len0_2 cap0_2 z0_2) (w1 : IsRow .u32 w a1 len1 cap1 z1) (w2 : (Lit.int .i64 a2).wf = true) :
    Calls Try.prog 3 #[.agg #[.int .i64 a0_0, .int .i64 a0_1, .slice a0_2 len0_2 cap0_2], .slice a1 len1 cap1, .int .i64 a2] w fun e w' => e = .returned (.bool true) ∧ Below w.heap.size w w' := by
  have BL := hide (bel_a1 w (.cells #[.int .i64 a0_0, .int .i64 a0_1, .slice a0_2 len0_2 cap0_2] 24))
  have BX := hide (Box.made w 24 #[.int .i64 a0_0, .int .i64 a0_1, .slice a0_2 len0_2 cap0_2])
  by_cases h1 : 3000 < len0_2
  · clear w0_0 w0_1 w0_2 w1 w2
    go_enter Try.func3, Try.ntmps3
    go_wp2_with fail
    refine (ans8 _).mono ?_
    rintro e w9 ⟨rfl, b9⟩
    have B9 := hide (bel_into (unhide BL) b9)
    clear b9
    go_wp2
    go_ret
    exact ⟨rfl, unhide B9⟩
  by_cases h2 : 1000 < len1
  · have h1' : ¬ (3000 : Int) < (len0_2 : Int) := by omega
    clear w0_0 w0_1 w0_2 w1 w2
    go_enter Try.func3, Try.ntmps3
    go_wp2_with fail
    refine (ans8 _).mono ?_
    rintro e w9 ⟨rfl, b9⟩
    have B9 := hide (bel_into (unhide BL) b9)
    clear b9
    go_wp2
    go_ret
    exact ⟨rfl, unhide B9⟩
  have h1' : ¬ (3000 : Int) < (len0_2 : Int) := by omega
  have h2' : ¬ (1000 : Int) < (len1 : Int) := by omega
  obtain ⟨ok, L, f, hL, C1, D1⟩ := agreeC (W := a0_0) (H := a0_1) w0_2 (by omega)
  have KC1 := hide C1
  have KD1 := hide D1
  obtain ⟨t, T, tb⟩ := lst_of_row w1
  have TB := hide tb
  have hl1 : len1 ≤ 1000 := by omega
  have HL := hide hL
  clear C1 D1 w0_0 w0_1 w0_2 w1 w2 h1 h2 tb hL
  rcases Nat.eq_zero_or_pos len1 with hz | hz
  · subst hz
    obtain ⟨ta, tc, hT, _⟩ := T.zero
    have TT := hide T
    clear T hT
    go_enter Try.func3, Try.ntmps3
    go_wp2_with fail
    refine (unhide KC1 _ (unhide BL)).mono ?_
    rintro e u1 ⟨aa, ac, rfl, la, b1⟩
    have X1 := hide ((unhide BX).below b1 (unhide BX).lt)
    have B1 := hide (bel_into (unhide BL) b1)
    have LA1 := hide la
    clear la b1 KC1 BX BL
    obtain ⟨⟨c0, c1, c2⟩, _⟩ := box_cells (unhide X1)
    go_wp2_with fail
    refine (unhide KD1 _ (unhide B1)).mono ?_
    rintro e u2 ⟨ba, bc, rfl, lb, b2⟩
    have B2 := hide (bel_into (unhide B1) b2)
    have LA2 := hide ((unhide LA1).below b2)
    have LB2 := hide lb
    clear lb b2 KD1 X1 B1 LA1 c0 c1 c2
    have KF := hide (forth11 ((unhide TT).below (unhide B2)) (by omega))
    go_wp2_with fail
    refine (unhide KF).mono ?_
    rintro e u3 ⟨fa, fc, rfl, lf, b3⟩
    have B3 := hide (bel_into (unhide B2) b3)
    have LA3 := hide ((unhide LA2).below b3)
    have LB3 := hide ((unhide LB2).below b3)
    have LF3 := hide lf
    clear lf b3 KF B2 LA2 LB2
    go_wp2_with fail
    refine (ans8 _).mono ?_
    rintro e u4 ⟨rfl, b4⟩
    have B4 := hide (bel_into (unhide B3) b4)
    have LF4 := hide ((unhide LF3).below b4)
    have KP := hide (rpix_lst ((unhide LA3).below b4) ((unhide LB3).below b4) (Nat.le_trans (unhide HL) (by omega)))
    clear b4 B3 LA3 LB3 LF3
    have hok : (ok != ok) = false := by simp
    go_wp2_with fail
    refine (unhide KP).mono ?_
    rintro e u5 ⟨rfl, b5⟩
    have B5 := hide (bel_into (unhide B4) b5)
    have LF5 := hide ((unhide LF4).below b5)
    clear b5 B4 LF4 KP
    skip
    go_wp2_with fail
    refine (bits13 a2 _).mono ?_
    rintro e u6 ⟨rfl, rfl⟩
    go_wp2_with fail
    refine (rpack14 a2 _).mono ?_
    rintro e u7 ⟨rfl, rfl⟩
    generalize bvI a2 = bq
    have hbq : ((bq : Int) != (bq : Int)) = false := by simp
    go_wp2_with fail
    go_loopw [12] (fun v wr => v = .int .i64 0 ∧ Below u7.heap.size u7 wr) (fun _ _ => 0)
    case atStart => exact ⟨rfl, Below.refl _ _⟩
    case round =>
      obtain ⟨rfl, B⟩ := hrel
      have BW := hide (bel_into (unhide B5) B)
      have LFW := (unhide LF5).below B
      clear B
      have KB := hide (back16 LFW (by omega))
      go_wp2_with fail
      refine (unhide KB).mono ?_
      rintro e u8 ⟨xa, xc, rfl, lx, b8⟩
      have B8 := hide (bel_into (unhide BW) b8)
      have KQ := hide (rpix_lst (lx.congr (ba_fo (unhide TB))) ((unhide TT).below (unhide B8)) (by omega))
      clear lx b8 KB
      go_wp2_with fail
      refine (unhide KQ).mono ?_
      rintro e u9 ⟨rfl, b9⟩
      have B9 := hide (bel_into (unhide B8) b9)
      clear b9 KQ B8
      have KR := hide (back16 ((unhide TT).below (unhide B9)) (by omega))
      go_wp2_with fail
      refine (unhide KR).mono ?_
      rintro e v1 ⟨ya, yc, rfl, ly, d1⟩
      have E1 := hide (bel_into (unhide B9) d1)
      have KS := hide (forth11 ly (by omega))
      clear ly d1 KR B9
      go_wp2_with fail
      refine (unhide KS).mono ?_
      rintro e v2 ⟨za, zc, rfl, lz, d2⟩
      have E2 := hide (bel_into (unhide E1) d2)
      have KT := hide (rpix_lst (lz.congr (fo_ba (unhide TB))) ((unhide TT).below (unhide E2)) (by omega))
      clear lz d2 KS E1
      go_wp2_with fail
      refine (unhide KT).mono ?_
      rintro e v3 ⟨rfl, d3⟩
      have E3 := hide (bel_into (unhide E2) d3)
      clear d3 KT E2
      go_wp2
      go_ret
      exact ⟨rfl, unhide E3⟩
  · obtain ⟨tbb, tbo, tbc, hT, PT⟩ := T.pos hz
    cases hT
    have TT := hide T
    have PX := hide PT
    have hptl := PT.lt hz
    clear T PT
    go_enter Try.func3, Try.ntmps3
    go_wp2_with fail
    refine (unhide KC1 _ (unhide BL)).mono ?_
    rintro e u1 ⟨aa, ac, rfl, la, b1⟩
    have X1 := hide ((unhide BX).below b1 (unhide BX).lt)
    have B1 := hide (bel_into (unhide BL) b1)
    have LA1 := hide la
    clear la b1 KC1 BX BL
    obtain ⟨⟨c0, c1, c2⟩, _⟩ := box_cells (unhide X1)
    go_wp2_with fail
    refine (unhide KD1 _ (unhide B1)).mono ?_
    rintro e u2 ⟨ba, bc, rfl, lb, b2⟩
    have B2 := hide (bel_into (unhide B1) b2)
    have LA2 := hide ((unhide LA1).below b2)
    have LB2 := hide lb
    clear lb b2 KD1 X1 B1 LA1 c0 c1 c2
    have KF := hide (forth11 ((unhide TT).below (unhide B2)) (by omega))
    go_wp2_with fail
    refine (unhide KF).mono ?_
    rintro e u3 ⟨fa, fc, rfl, lf, b3⟩
    have B3 := hide (bel_into (unhide B2) b3)
    have LA3 := hide ((unhide LA2).below b3)
    have LB3 := hide ((unhide LB2).below b3)
    have LF3 := hide lf
    clear lf b3 KF B2 LA2 LB2
    go_wp2_with fail
    refine (ans8 _).mono ?_
    rintro e u4 ⟨rfl, b4⟩
    have B4 := hide (bel_into (unhide B3) b4)
    have LF4 := hide ((unhide LF3).below b4)
    have KP := hide (rpix_lst ((unhide LA3).below b4) ((unhide LB3).below b4) (Nat.le_trans (unhide HL) (by omega)))
    clear b4 B3 LA3 LB3 LF3
    have hok : (ok != ok) = false := by simp
    go_wp2_with fail
    refine (unhide KP).mono ?_
    rintro e u5 ⟨rfl, b5⟩
    have B5 := hide (bel_into (unhide B4) b5)
    have LF5 := hide ((unhide LF4).below b5)
    clear b5 B4 LF4 KP
    have hll : ((len1 : Int) != (len1 : Int)) = false := by simp
    go_wp2_with fail
    refine (bits13 a2 _).mono ?_
    rintro e u6 ⟨rfl, rfl⟩
    go_wp2_with fail
    refine (rpack14 a2 _).mono ?_
    rintro e u7 ⟨rfl, rfl⟩
    generalize bvI a2 = bq
    have hbq : ((bq : Int) != (bq : Int)) = false := by simp
    go_wp2_with fail
    obtain ⟨fb, fo, fcc, hF, PF⟩ := (unhide LF5).pos hz
    cases hF
    have PFF := hide PF
    clear PF
    go_loopw [12] (fun v wr => ∃ j : Nat, v = .int .i64 j ∧ j ≤ len1 ∧ Below u7.heap.size u7 wr) (fun v _ => len1 - (intOf v).toNat)
    case atStart => exact ⟨0, rfl, Nat.zero_le _, Below.refl _ _⟩
    case round =>
      obtain ⟨j, rfl, hj, B⟩ := hrel
      have BW := hide (bel_into (unhide B5) B)
      have BV := hide B
      have cf := fun i hi => (unhide PFF).below B i hi
      have ct := fun i hi => (unhide PX).below (unhide BW) i hi
      have CF := hide cf
      have CT := hide ct
      have LFW := (unhide LF5).below B
      have LFH := hide LFW
      clear B cf ct
      by_cases hlt : j < len1
      · have hlt' : (j : Int) < (len1 : Int) := by omega
        clear LFW
        have cj := unhide CT j hlt
        have fj := unhide CF j hlt
        rcases Nat.eq_zero_or_pos j with hj0 | hj0
        · have e0 : foV t j = t j := by rw [hj0]; rfl
          have hj0' : ¬ (0 : Int) < (j : Int) := by omega
          rw [e0] at fj
          clear hj0 e0
          generalize t j = p0 at cj fj
          go_wp2_with fail
          go_roundw
          case rel => exact ⟨j + 1, by go_num, by omega, unhide BV⟩
          case measure => simp [intOf]; omega
        · obtain ⟨k, hk⟩ : ∃ k, j = k + 1 := ⟨j - 1, by omega⟩
          have HK := hide hk
          have EJ : IntKind.i64.wrap ((j : Int) - 1) = (k : Int) := by rw [hk]; simp [IntKind.wrap, IntKind.bits, IntKind.signed]; omega
          have hkn : (k : Int) < (len1 : Int) := by omega
          have hj0' : (0 : Int) < (j : Int) := by omega
          have ck := unhide CT k (by omega)
          have ef : foV t j = subV (t j) (t k) := by rw [hk]; rfl
          rw [ef] at fj
          clear hk ef
          generalize t j = pj at cj fj
          generalize t k = pk at ck fj
          go_wp2_with fail
          go_region_held3 (fun w' => w'.cell? ⟨tbb, tbo + j, none⟩ = some (.int .u32 pj) ∧ w'.cell? ⟨tbb, tbo + k, none⟩ = some (.int .u32 pk)) (first | exact ⟨n1, n2⟩ | go_keep) ((first | (go_at_call 15; refine (rsub15 _ _ _).mono ?_; rintro e w5 ⟨rfl, b5⟩; have B6 := hide (bel_into (bel_dr (Below.refl _ _)) b5); have n1 := ((unhide B6).cell (p := ⟨tbb, tbo + j, none⟩) (lt_of_cell cj)).trans cj; have n2 := ((unhide B6).cell (p := ⟨tbb, tbo + k, none⟩) (lt_of_cell ck)).trans ck; have n3 := ((unhide B6).cell (p := ⟨fb, fo + j, none⟩) (lt_of_cell fj)).trans fj; clear b5)))
          all_goals go_wp2_with fail
          all_goals go_roundw
          case rel => exact ⟨j + 1, by go_num, by omega, bel_into (unhide BV) (unhide B6)⟩
          case measure => simp [intOf]; omega
      · obtain rfl : j = len1 := by omega
        have KB := hide (back16 LFW (by omega))
        go_wp2_with fail
        refine (unhide KB).mono ?_
        rintro e u8 ⟨xa, xc, rfl, lx, b8⟩
        have B8 := hide (bel_into (unhide BW) b8)
        have KQ := hide (rpix_lst (lx.congr (ba_fo (unhide TB))) ((unhide TT).below (unhide B8)) (by omega))
        clear lx b8 KB
        go_wp2_with fail
        refine (unhide KQ).mono ?_
        rintro e u9 ⟨rfl, b9⟩
        have B9 := hide (bel_into (unhide B8) b9)
        clear b9 KQ B8
        have KR := hide (back16 ((unhide TT).below (unhide B9)) (by omega))
        go_wp2_with fail
        refine (unhide KR).mono ?_
        rintro e v1 ⟨ya, yc, rfl, ly, d1⟩
        have E1 := hide (bel_into (unhide B9) d1)
        have KS := hide (forth11 ly (by omega))
        clear ly d1 KR B9
        go_wp2_with fail
        refine (unhide KS).mono ?_
        rintro e v2 ⟨za, zc, rfl, lz, d2⟩
        have E2 := hide (bel_into (unhide E1) d2)
        have KT := hide (rpix_lst (lz.congr (fo_ba (unhide TB))) ((unhide TT).below (unhide E2)) (by omega))
        clear lz d2 KS E1
        go_wp2_with fail
        refine (unhide KT).mono ?_
        rintro e v3 ⟨rfl, d3⟩
        have E3 := hide (bel_into (unhide E2) d3)
        clear d3 KT E2
        go_wp2
        go_ret
        exact ⟨rfl, unhide E3⟩

set_option maxRecDepth 100000 in
theorem lifted (os : Os) (started : os.Started) (H : Type) (enc : TypeId × Value → H) :
    ReturnsInHanded {} Try.checked os 3 .any (Rows.tableColorsSpec.pre6 enc Try.prog Try.f3 Rows.tableColorsRow.domain false) (Rows.tableColorsSpec.post enc Try.prog Try.f3 false true false false) := by
  refine returnsInHanded_of_change (C := Try.checked) own started (by kernel_rfl) Try.func3
    (ChangeSpec.witness6 (enc := enc) (C := Try.checked) false ⟨#[], #[.agg #[.int .i64 0, .int .i64 0, .slice none 0 0], .slice none 0 0, .int .i64 0], []⟩ 8 (by kernel_rfl) (by kernel_rfl) (by kernel_rfl) (by kernel_rfl)) ?_
  intro W base args ds gs before hval0 hW hcnd _
  have hval : ∀ (j : Nat) t v, Try.f3.params[j]? = some t → args[j]? = some v → Value.okWide Try.prog W .any base t v := hval0
  have hW' := hW
  obtain ⟨p, q, hA0, hV, rfl, hfz, hnd⟩ := hW
  have hA : DataW.TrodAll enc Try.prog W 0 (fun _ => true) true Try.f3.params.toList args.toList ds p := hA0
  rw [Try.params3] at hA hval
  obtain ⟨v0, vs0, d0, ds0, p0, q0, hargs, rfl, rfl, h0, r0⟩ := trodAll_cons hA
  obtain ⟨v1, vs1, d1, ds1, p1, q1, rfl, rfl, rfl, h1, r1⟩ := trodAll_cons r0
  obtain ⟨v2, vs2, d2, ds2, p2, q2, rfl, rfl, rfl, h2, r2⟩ := trodAll_cons r1
  obtain ⟨rfl, rfl, rfl⟩ := trodAll_nil r2
  obtain rfl : args = #[v0, v1, v2] := by cases args; simp_all
  obtain ⟨rfl, rfl⟩ := trodVars_none hV
  have k0 := h0
  have lt0 : ∀ x ∈ p0, x.block < W.heap.size := by obtain ⟨m, hm⟩ := k0; exact DataW.trod_lt m _ _ _ hm
  obtain ⟨c0_0, c0_1, c0_2, y0_0, y0_1, y0_2, m0, rfl, _, _, hy0_0, hy0_1, hy0_2⟩ := Go.Joins.open_agg3 Try.underlying24 (by kernel_rfl) (by kernel_rfl) (hval 0 24 v0 rfl rfl) h0
  obtain ⟨a0_0, e0_0, _, w0_0⟩ := DataW.trod_int Try.underlying3 hy0_0
  simp only [List.cons.injEq, and_true] at e0_0
  subst e0_0
  obtain ⟨a0_1, e0_1, _, w0_1⟩ := DataW.trod_int Try.underlying3 hy0_1
  simp only [List.cons.injEq, and_true] at e0_1
  subst e0_1
  obtain ⟨a0_2, len0_2, cap0_2, e0_2⟩ := Go.Joins.slice_form Try.underlying22 hy0_2
  simp only [List.cons.injEq, and_true] at e0_2
  subst e0_2
  obtain ⟨z0_2, w0_2⟩ : ∃ zs, IsRow .u32 W a0_2 len0_2 cap0_2 zs := by
    rcases open_ints Try.underlying22 Try.underlying31 (by kernel_rfl) hy0_2 with ⟨hcs, _⟩ | ⟨x, l, c, zs, hcs, _, hl, hm, hz, _, hcell, hwz⟩
    · simp at hcs
      obtain ⟨rfl, rfl, rfl⟩ := hcs
      exact ⟨[], .inl ⟨rfl, rfl, rfl, rfl⟩⟩
    · simp at hcs
      obtain ⟨rfl, rfl, rfl⟩ := hcs
      exact ⟨zs, .inr ⟨_, rfl, hl, hm, by simpa using hz, hcell, hwz⟩⟩
  obtain ⟨a1, len1, cap1, rfl⟩ := okWide_slice Try.underlying22 (hval 1 22 v1 rfl rfl)
  have k1 := h1
  have lt1 : ∀ x ∈ p1, x.block < W.heap.size := by obtain ⟨m, hm⟩ := k1; exact DataW.trod_lt m _ _ _ hm
  obtain ⟨z1, w1⟩ : ∃ zs, IsRow .u32 W a1 len1 cap1 zs := by
    obtain ⟨fuel, hf⟩ := h1
    rcases open_ints Try.underlying22 Try.underlying31 (by kernel_rfl) hf with ⟨hcs, _⟩ | ⟨x, l, c, zs, hcs, _, hl, hm, hz, _, hcell, hwz⟩
    · simp [Value.cells] at hcs
      obtain ⟨rfl, rfl, rfl⟩ := hcs
      exact ⟨[], .inl ⟨rfl, rfl, rfl, rfl⟩⟩
    · simp [Value.cells] at hcs
      obtain ⟨rfl, rfl, rfl⟩ := hcs
      exact ⟨zs, .inr ⟨_, rfl, hl, hm, by simpa using hz, hcell, hwz⟩⟩
  obtain ⟨a2, rfl, rfl, rfl, w2⟩ := open_int Try.underlying3 (hval 2 3 v2 rfl rfl) h2
  clear hA0 hval0
  refine (walk a0_0 a0_1 a0_2 len0_2 cap0_2 z0_2 a1 len1 cap1 z1 a2 W w0_0 w0_1 w0_2 w1 w2).mono fun e W' ⟨he, bel⟩ => ?_
  subst he
  exact ⟨_, rfl, _, _, _, [], _, [], hW', trodAll_mk1 (shut_bool Try.underlying4 _), (trodAll_cons_mk (Below.trod laidOut (by kernel_rfl) (of_decide_eq_true (by kernel_rfl)) k0 bel lt0) (trodAll_cons_mk (Below.trod laidOut (by kernel_rfl) (of_decide_eq_true (by kernel_rfl)) k1 bel lt1) (trodAll_cons_mk (shut_int Try.underlying3 w2) trodAll_mk0))), rfl, bel.frame _, fun h => by cases h⟩

theorem over : Rows.tableColorsRow.holds Try.pinned (OpenSpec.ofChange Rows.tableColorsSpec) :=
  OpenClaim.holds_of_wide 3 Try.f3 rfl rfl rfl rfl rfl rfl rfl ⟨rfl, rfl, rfl, rfl, rfl⟩ rfl rfl rfl rfl rfl (by kernel_rfl) Try.func3 (by kernel_rfl)
    (of_decide_eq_true (by kernel_rfl)) (by unfold Func.isWrapper; first | (rw [if_pos (by decide +kernel)]; kernel_rfl) | (rw [if_neg (by decide +kernel)]; exact ⟨rfl, rfl⟩))
    (fun os started H enc _ => lifted os started H enc)

/-- The statement. -/
theorem proved : Rows.TableColorsSaid := over
#print axioms proved
end Go.Proofs.Ytflmlbdcjjldgaa.tableColors
