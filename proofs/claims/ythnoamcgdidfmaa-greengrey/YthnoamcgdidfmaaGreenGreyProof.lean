/-
  What is proved: Grey is green alone, without green nothing changes, and the arguments are as they were: the Go function GreenGrey of the statements of layer 15 returns true for all arguments.
  Conditions: none.
-/
import Derived.Test.YthnoamcgdidfmaaRows
import Derived.Test.YthnoamcgdidfmaaKAns
import Derived.Test.YthnoamcgdidfmaaKTwo
import Derived.Test.YthnoamcgdidfmaaLRef
import Derived.WalkKit
import Derived.ProofKit
import Derived.OpenShut
import Derived.ShutString
import Derived.ChangeOld
import Derived.Below
import Derived.Deep.Grids
import Derived.Lib.SmallJoins
namespace Go.Proofs.Ythnoamcgdidfmaa.greenGrey
open Go.ChangeShapes Go.WideShapes Go.ChangeAt Go.RowKit
open Go.Proofs.Ythnoamcgdidfmaa.Core Go.Proofs.Ythnoamcgdidfmaa.PNum Go.Proofs.Ythnoamcgdidfmaa.PPrt Go.Proofs.Ythnoamcgdidfmaa.PGoo Go.Proofs.Ythnoamcgdidfmaa.XNum Go.Proofs.Ythnoamcgdidfmaa.Ims Go.Proofs.Ythnoamcgdidfmaa.LRef Go.Proofs.Ythnoamcgdidfmaa.KNum Go.Proofs.Ythnoamcgdidfmaa.KFor Go.Proofs.Ythnoamcgdidfmaa.KAns Go.Proofs.Ythnoamcgdidfmaa.KTwo
open Go.ChangeMaps (open_string shut_string)
set_option linter.unusedVariables false

theorem own : ownKnob Try.prog.godebug = none := by kernel_rfl
theorem laidOut : laidOutB Try.prog = true := by kernel_rfl

/-- A slice of integers that came in: nil, or a row of cells, each fitting its kind. -/
def IsRow (k : IntKind) (w : World) (a : Option Addr) (len cap : Nat) (zs : List Int) : Prop :=
  (a = none ∧ len = 0 ∧ cap = 0 ∧ zs = []) ∨
  ∃ x, a = some x ∧ len ≤ cap ∧ cap ≤ maxLen ∧ zs.length = cap ∧ (∀ i, i < zs.length → w.cell? (x.add i) = some (.int k (zs.getD i 0))) ∧ ∀ n ∈ zs, (Lit.int k n).wf = true
/-- A slice of bools that came in. -/
def IsBools (w : World) (a : Option Addr) (len cap : Nat) (B : Nat → Bool) : Prop :=
  (a = none ∧ len = 0 ∧ cap = 0) ∨ ∃ x, a = some x ∧ len ≤ cap ∧ cap ≤ maxLen ∧ ∀ i, i < cap → w.cell? (x.add i) = some (.bool (B i))
open Go.Sort
theorem lg_gy {a n : Nat} {f : Nat → Nat} (ha : a < 256) (FB : ∀ i, i < n → f i < 256) (i : Nat) (hi : i < n) : lgV (gyV a f i) = mk4 a 0 (f i) 0 := lg_grey ha (FB i hi)
theorem lg_rb {a n : Nat} {f : Nat → Nat} (ha : a < 256) (FB : ∀ i, i < n → f i < 256) (i : Nat) (hi : i < n) : lgV (rbV a f i) = rbV a f i := by
  have h := FB i hi
  exact lg_none (mk4_lt ha h (by omega) (by omega)) (mk4_2 ha h (by omega) (by omega))
theorem new_set (w : World) (p : Addr) (v x : Value) (t : TypeId) : ∀ j u, [x][j]? = some u → ((w.setCell p v).alloc (.cells #[x] t)).cell? ((⟨w.heap.size, 0, none⟩ : Addr).add j) = some u := by
  have h := cell_one_new (w.setCell p v) x t
  rw [show (w.setCell p v).heap.size = w.heap.size by simp] at h
  exact h
set_option maxRecDepth 20000 in
set_option maxHeartbeats 1000000 in
theorem walk (a0 : Option Addr) (len0 cap0 : Nat) (z0 : List Int) (a1 : Int) (w : World) (w0 : IsRow .u8 w a0 len0 cap0 z0) (w1 : (Lit.int .u8 a1).wf = true) :
    Calls Try.prog 4 #[.slice a0 len0 cap0, .int .u8 a1] w fun e w' => e = .returned (.bool true) ∧ Below w.heap.size w w' := by
  obtain ⟨a10, a11⟩ := bounds_u8 w1
  obtain ⟨A, rfl⟩ : ∃ A : Nat, a1 = A := Int.eq_ofNat_of_zero_le a10
  have ha : A < 256 := by omega
  clear a10 a11 w1
  by_cases hz : len0 = 0
  · subst hz
    clear w0
    go_enter Try.func4, Try.ntmps4
    go_wp2_with fail
    refine (ans6 _).mono ?_
    rintro e w9 ⟨rfl, b9⟩
    have B9 := hide b9
    clear b9
    go_wp2
    go_ret
    exact ⟨rfl, unhide B9⟩
  · by_cases hbig : 300 < len0
    · clear w0
      go_enter Try.func4, Try.ntmps4
      go_wp2_with fail
      refine (ans6 _).mono ?_
      rintro e w9 ⟨rfl, b9⟩
      have B9 := hide b9
      clear b9
      go_wp2
      go_ret
      exact ⟨rfl, unhide B9⟩
    · have hn0 : 0 < len0 := by omega
      have hsm : len0 ≤ 300 := by omega
      obtain ⟨b, off, f, rfl, P, fb⟩ := byt_of w0 hn0
      obtain ⟨n, hne⟩ : ∃ n, n = len0 := ⟨_, rfl⟩
      subst hne
      have P0 := hide P
      have FB := hide fb
      have ST := hide (Two.start w n (gyV A f) (rbV A f))
      obtain ⟨i0, hi0, hz0, hz1, hz2⟩ := info_parts info22
      have hz' : ((n : Int) == 0) = false := by simp; omega
      have hs' : (n : Int) ≤ 300 := by omega
      clear w0 P fb hbig hz
      go_enter Try.func4, Try.ntmps4
      go_wp2_with fail
      go_loopw [7] (fun i wr => ∃ (j : Nat) (va vb : Value), j ≤ n ∧ i = .int .i64 j ∧ Two w n (gyV A f) (rbV A f) va vb j wr) (fun i _ => n - (intOf i).toNat)
      case atStart => exact ⟨0, _, _, Nat.zero_le _, rfl, unhide ST⟩
      case round =>
        obtain ⟨j, va, vb, hj, rfl, D⟩ := hrel
        have D0 := hide D
        by_cases hlt : j < n
        · have hlt' : (j : Int) < (n : Int) := by omega
          have pj := (unhide P0).below D.bel j hlt
          have hpj := lt_of_cell pj
          have hg := unhide FB j hlt
          obtain ⟨⟨c0, c1, c2⟩, f0, f1, f2⟩ := box_cells D.bm
          have hm := D.bm.lt
          obtain ⟨⟨d0, d1, d2⟩, k0, k1, k2⟩ := box_cells D.bn
          have hn := D.bn.lt
          have J1 := join_gy ha hg
          have J2 := join_rb ha hg (show f j / 2 < 256 by omega)
          have H1 : Hid (((mk4 A (f j) (f j) (f j) : Nat) : Int) = gyV A f j) := hide rfl
          have H2 : Hid (((mk4 A (f j) 0 (f j / 2) : Nat) : Int) = rbV A f j) := hide rfl
          obtain ⟨aa, ac, rfl⟩ := own_slice D.oa
          obtain ⟨ba, bc, rfl⟩ := own_slice D.ob
          obtain ⟨q, hq⟩ : ∃ q, f j / 2 = q := ⟨_, rfl⟩
          have Q2 : ((f j : Nat) : Int) / 2 = (q : Int) := by omega
          rw [hq] at J2 H2
          clear D hq
          generalize mk4 A (f j) (f j) (f j) = u1 at *
          generalize mk4 A (f j) 0 q = u2 at *
          generalize f j = g at *
          go_wp2_with (first | (at_builtin; refine wpList_append_own_at _ rfl (.tmp 41) (.tmp 53) 22 rfl (w.heap.size + 2) 33 i0 (.int .u32 0) 1 4 Try.underlying22 hi0 hz0 hz1 hz2 rfl (by decide) _ j (pcells (gyV A f) j) rfl ((unhide D0).oa.alloc _) ⟨wr.heap.size, 0, none⟩ 1 1 [.int .u32 u1] rfl rfl (cell_one_new _ _ _) (one_one _ _) (by unfold maxLen; omega) (by omega) (by have := (unhide D0).bn.lt; simp; omega) ?_; intro v1 w6 own1 gr1 _ at1; have K6 := (unhide D0).kept gr1; have M6 := hide ((unhide D0).mid own1 gr1 at1 (unhide H1)); clear c0 c1 c2 f0 f1 f2 hm d0 d1 d2 k0 k1 k2 hn; obtain ⟨⟨c0, c1, c2⟩, f0, f1, f2⟩ := box_cells K6.1; have hm := K6.1.lt; obtain ⟨⟨d0, d1, d2⟩, k0, k1, k2⟩ := box_cells K6.2; have hn := K6.2.lt; obtain ⟨ua, uc, rfl⟩ := own_slice own1; clear own1 gr1 at1 K6) | (at_builtin; refine wpList_append_own_at _ rfl (.tmp 57) (.tmp 67) 22 rfl (w.heap.size + 2) 33 i0 (.int .u32 0) 1 4 Try.underlying22 hi0 hz0 hz1 hz2 rfl (by decide) _ j (pcells (rbV A f) j) rfl ((unhide M6).ob.alloc _) ⟨w6.heap.size, 0, none⟩ 1 1 [.int .u32 u2] rfl rfl (new_set _ _ _ _ _) (one_one _ _) (by unfold maxLen; omega) (by omega) (by have := (unhide M6).bn.lt; simp at this; simp; omega) ?_; intro v2 w7 own2 gr2 _ at2; have K7 := (unhide M6).kept gr2; have D7 := hide ((unhide M6).next own2 gr2 at2 (unhide H2)); clear d0 d1 d2 k0 k1 k2 hn; obtain ⟨⟨d0, d1, d2⟩, k0, k1, k2⟩ := box_cells K7.2; have hn := K7.2.lt; obtain ⟨va7, vc7, rfl⟩ := own_slice own2; clear own2 gr2 at2 K7) | fail)
          go_roundw
          case rel => exact ⟨j + 1, _, _, by omega, by go_num, unhide D7⟩
          case measure => simp [intOf]; omega
        · obtain rfl : j = n := by omega
          have hnl : ¬ (j : Int) < (j : Int) := by omega
          obtain ⟨ga, ca, rfl, pa, ha1, ha2⟩ := own_pow D.oa hn0
          obtain ⟨gb, cb, rfl, pb, hb1, hb2⟩ := own_pow D.ob hn0
          have IA : Hid (Img wr j 1 ga 0 j (gyV A f)) := hide (img_own (by omega) (by omega) (by omega) pa)
          have IB : Hid (Img wr j 1 gb 0 j (rbV A f)) := hide (img_own (by omega) (by omega) (by omega) pb)
          have BN := hide D.bn
          have BW := hide D.bel
          obtain ⟨⟨c0, c1, c2⟩, _⟩ := box_cells D.bm
          have hm := D.bm.lt
          clear D D0 pa pb ha1 ha2 hb1 hb2 ST
          generalize wr = wl at *
          go_wp2_with fail
          refine (forth7 (W := j) (H := 1) ca (unhide IA) (by omega) (by omega) (by omega)).mono ?_
          rintro e w2 ⟨g1, rfl, G⟩
          have A2 := hide (bel_into G.bel (bel_a1 w2 (.cells #[.int .i64 j, .int .i64 1, .slice (some ⟨g1, 0, none⟩) j j] 24)))
          have B3 := hide (bel_into (unhide BW) (unhide A2))
          have N3 := hide ((unhide BN).below (unhide A2) (unhide BN).lt)
          have Y3 := hide (Box.made w2 24 #[.int .i64 j, .int .i64 1, .slice (some ⟨g1, 0, none⟩) j j])
          have IB3 := hide ((unhide IB).below (unhide A2))
          have R3 := hide ((G.row.congr (fun i hi => lg_gy ha (unhide FB) i hi)).below (bel_a1 w2 (.cells #[.int .i64 j, .int .i64 1, .slice (some ⟨g1, 0, none⟩) j j] 24)))
          clear G A2 c0 c1 c2 hm BW BN IB IA
          go_upto_region 11 with fail
          generalize w2.heap.size = gx at *
          generalize w2.alloc (.cells #[.int .i64 j, .int .i64 1, .slice (some ⟨g1, 0, none⟩) j j] 24) = w3 at *
          obtain ⟨⟨d0, d1, d2⟩, _⟩ := box_cells (unhide N3)
          have hn3 := (unhide N3).lt
          go_wp2_with fail
          refine (forth7 (W := j) (H := 1) cb (unhide IB3) (by omega) (by omega) (by omega)).mono ?_
          rintro e w4 ⟨g2, rfl, G⟩
          have A4 := hide (bel_into G.bel (bel_a1 w4 (.cells #[.int .i64 j, .int .i64 1, .slice (some ⟨g2, 0, none⟩) j j] 24)))
          have B5 := hide (bel_into (unhide B3) (unhide A4))
          have N5 := hide ((unhide N3).below (unhide A4) (unhide N3).lt)
          have Y5 := hide ((unhide Y3).below (unhide A4) (unhide Y3).lt)
          have V5 := hide (Box.made w4 24 #[.int .i64 j, .int .i64 1, .slice (some ⟨g2, 0, none⟩) j j])
          have IB5 := hide ((unhide IB3).below (unhide A4))
          have R5 := hide ((unhide R3).below (unhide A4))
          have S5 := hide ((G.row.congr (fun i hi => lg_rb ha (unhide FB) i hi)).below (bel_a1 w4 (.cells #[.int .i64 j, .int .i64 1, .slice (some ⟨g2, 0, none⟩) j j] 24)))
          clear G A4 d0 d1 d2 hn3 N3 Y3 IB3 R3 B3
          go_upto_region 12 with fail
          generalize w4.heap.size = gy at *
          generalize w4.alloc (.cells #[.int .i64 j, .int .i64 1, .slice (some ⟨g2, 0, none⟩) j j] 24) = w5 at *
          go_wp2_with fail
          go_loopw [13] (fun i wr => ∃ q : Nat, q ≤ j ∧ i = .int .i64 q ∧ Below w5.heap.size w5 wr) (fun i _ => j - (intOf i).toNat)
          case atStart => exact ⟨0, Nat.zero_le _, rfl, Below.refl _ _⟩
          case round =>
            obtain ⟨q, hq, rfl, BR⟩ := hrel
            have BR0 := hide BR
            by_cases hlq : q < j
            · have hlq' : (q : Int) < (j : Int) := by omega
              obtain ⟨⟨d0, d1, d2⟩, _⟩ := box_cells ((unhide Y5).below BR (unhide Y5).lt)
              have hy5 := lt_of_cell d0
              have px := ((unhide R5).below BR q hlq).1
              have pl := (unhide P0).below (bel_into (unhide B5) BR) q hlq
              have hpx := lt_of_cell px
              have hpl := lt_of_cell pl
              have hg := unhide FB q hlq
              have J3 := join_g ha hg
              clear BR
              generalize mk4 A 0 (f q) 0 = u at *
              generalize f q = g at *
              go_upto_region 17 with fail
              go_quiet (fail)
              go_wp2
              go_roundw
              case rel => exact ⟨q + 1, by omega, by go_num, below_drew (unhide BR0) _⟩
              case measure => simp [intOf]; omega
            · obtain rfl : q = j := by omega
              clear BR
              go_wp2_with fail
              refine (ans6 _).mono ?_
              rintro e w7 ⟨rfl, b7⟩
              have U7 := hide (bel_into (unhide BR0) b7)
              have N7 := hide ((unhide N5).below (unhide U7) (unhide N5).lt)
              have V7 := hide ((unhide V5).below (unhide U7) (unhide V5).lt)
              have IB7 := hide ((unhide IB5).below (unhide U7))
              have S7 := hide ((unhide S5).below (unhide U7))
              have B7 := hide (bel_into (unhide B5) (unhide U7))
              obtain ⟨⟨d0, d1, d2⟩, _⟩ := box_cells (unhide N7)
              obtain ⟨⟨e0, e1, e2⟩, _⟩ := box_cells (unhide V7)
              have hn7 := (unhide N7).lt
              have hv7 := (unhide V7).lt
              clear b7
              go_wp2_with fail
              refine (rsame12 q 1 q cb (unhide S7).pixs (unhide IB7).px (by omega)).mono ?_
              rintro e w8 ⟨rfl, b8⟩
              have B8 := hide (bel_into (unhide B7) b8)
              clear b8
              go_wp2
              go_ret
              exact ⟨rfl, unhide B8⟩

set_option maxRecDepth 100000 in
theorem lifted (os : Os) (started : os.Started) (H : Type) (enc : TypeId × Value → H) :
    ReturnsInHanded {} Try.checked os 4 .any (Rows.greenGreySpec.pre6 enc Try.prog Try.f4 Rows.greenGreyRow.domain false) (Rows.greenGreySpec.post enc Try.prog Try.f4 false true false false) := by
  refine returnsInHanded_of_change (C := Try.checked) own started (by kernel_rfl) Try.func4
    (ChangeSpec.witness6 (enc := enc) (C := Try.checked) false ⟨#[], #[.slice none 0 0, .int .u8 0], []⟩ 8 (by kernel_rfl) (by kernel_rfl) (by kernel_rfl) (by kernel_rfl)) ?_
  intro W base args ds gs before hval0 hW hcnd _
  have hval : ∀ (j : Nat) t v, Try.f4.params[j]? = some t → args[j]? = some v → Value.okWide Try.prog W .any base t v := hval0
  have hW' := hW
  obtain ⟨p, q, hA0, hV, rfl, hfz, hnd⟩ := hW
  have hA : DataW.TrodAll enc Try.prog W 0 (fun _ => true) true Try.f4.params.toList args.toList ds p := hA0
  rw [Try.params4] at hA hval
  obtain ⟨v0, vs0, d0, ds0, p0, q0, hargs, rfl, rfl, h0, r0⟩ := trodAll_cons hA
  obtain ⟨v1, vs1, d1, ds1, p1, q1, rfl, rfl, rfl, h1, r1⟩ := trodAll_cons r0
  obtain ⟨rfl, rfl, rfl⟩ := trodAll_nil r1
  obtain rfl : args = #[v0, v1] := by cases args; simp_all
  obtain ⟨rfl, rfl⟩ := trodVars_none hV
  obtain ⟨a0, len0, cap0, rfl⟩ := okWide_slice Try.underlying32 (hval 0 32 v0 rfl rfl)
  have k0 := h0
  have lt0 : ∀ x ∈ p0, x.block < W.heap.size := by obtain ⟨m, hm⟩ := k0; exact DataW.trod_lt m _ _ _ hm
  obtain ⟨z0, w0⟩ : ∃ zs, IsRow .u8 W a0 len0 cap0 zs := by
    obtain ⟨fuel, hf⟩ := h0
    rcases open_ints Try.underlying32 Try.underlying5 (by kernel_rfl) hf with ⟨hcs, _⟩ | ⟨x, l, c, zs, hcs, _, hl, hm, hz, _, hcell, hwz⟩
    · simp [Value.cells] at hcs
      obtain ⟨rfl, rfl, rfl⟩ := hcs
      exact ⟨[], .inl ⟨rfl, rfl, rfl, rfl⟩⟩
    · simp [Value.cells] at hcs
      obtain ⟨rfl, rfl, rfl⟩ := hcs
      exact ⟨zs, .inr ⟨_, rfl, hl, hm, by simpa using hz, hcell, hwz⟩⟩
  obtain ⟨a1, rfl, rfl, rfl, w1⟩ := open_int Try.underlying5 (hval 1 5 v1 rfl rfl) h1
  clear hA0 hval0
  refine (walk a0 len0 cap0 z0 a1 W w0 w1).mono fun e W' ⟨he, bel⟩ => ?_
  subst he
  exact ⟨_, rfl, _, _, _, [], _, [], hW', trodAll_mk1 (shut_bool Try.underlying4 _), (trodAll_cons_mk (Below.trod laidOut (by kernel_rfl) (of_decide_eq_true (by kernel_rfl)) k0 bel lt0) (trodAll_cons_mk (shut_int Try.underlying5 w1) trodAll_mk0)), rfl, bel.frame _, fun h => by cases h⟩

theorem over : Rows.greenGreyRow.holds Try.pinned (OpenSpec.ofChange Rows.greenGreySpec) :=
  OpenClaim.holds_of_wide 4 Try.f4 rfl rfl rfl rfl rfl rfl rfl ⟨rfl, rfl, rfl, rfl, rfl⟩ rfl rfl rfl rfl rfl (by kernel_rfl) Try.func4 (by kernel_rfl)
    (of_decide_eq_true (by kernel_rfl)) (by unfold Func.isWrapper; first | (rw [if_pos (by decide +kernel)]; kernel_rfl) | (rw [if_neg (by decide +kernel)]; exact ⟨rfl, rfl⟩))
    (fun os started H enc _ => lifted os started H enc)

/-- The statement. -/
theorem proved : Rows.GreenGreySaid := over
#print axioms proved
end Go.Proofs.Ythnoamcgdidfmaa.greenGrey
