/-
  What is proved: With more room the lengths that size.Best answers cost no more, and with enough for all of one length no more than that.
  Conditions: none.
-/
import Derived.Test.YtcfnbbelbadmkaaRows
import Derived.Test.YtcfnbbelbadmkaaOrd
import Derived.Test.YtcfnbbelbadmkaaWid
import Derived.WalkKit
import Derived.ProofKit
import Derived.OpenShut
import Derived.ShutString
import Derived.ChangeOld
import Derived.Below
namespace Go.Proofs.Ytcfnbbelbadmkaa.sizeWide
open Go.ChangeShapes Go.WideShapes Go.ChangeAt Go.RowKit
open Go.Proofs.Ytcfnbbelbadmkaa.Core Go.Proofs.Ytcfnbbelbadmkaa.Gnd Go.Proofs.Ytcfnbbelbadmkaa.Ris Go.Proofs.Ytcfnbbelbadmkaa.Itm Go.Proofs.Ytcfnbbelbadmkaa.Spr Go.Proofs.Ytcfnbbelbadmkaa.Bst Go.Proofs.Ytcfnbbelbadmkaa.Par Go.Proofs.Ytcfnbbelbadmkaa.Mrg Go.Proofs.Ytcfnbbelbadmkaa.Gth Go.Proofs.Ytcfnbbelbadmkaa.Ans Go.Proofs.Ytcfnbbelbadmkaa.Ord Go.Proofs.Ytcfnbbelbadmkaa.Wid Go.Proofs.Ytcfnbbelbadmkaa.Totl
open Go.ChangeMaps (open_string shut_string)
set_option linter.unusedVariables false

theorem own : ownKnob Try.prog.godebug = none := by kernel_rfl
theorem laidOut : laidOutB Try.prog = true := by kernel_rfl

/-- WHAT THE WALK IS TOLD OF A SLICE OF INTEGERS THAT CAME IN: it is nil; or it leads to a row of 'cap' cells, the numbers 'zs' (the first 'len' are its elements, the rest its spare room), each fitting its kind. -/
def IsRow (k : IntKind) (w : World) (a : Option Addr) (len cap : Nat) (zs : List Int) : Prop :=
  (a = none ∧ len = 0 ∧ cap = 0 ∧ zs = []) ∨
  ∃ x, a = some x ∧ len ≤ cap ∧ cap ≤ maxLen ∧ zs.length = cap ∧ (∀ i, i < zs.length → w.cell? (x.add i) = some (.int k (zs.getD i 0))) ∧ ∀ n ∈ zs, (Lit.int k n).wf = true


set_option maxRecDepth 20000 in
set_option maxHeartbeats 1000000 in
theorem walk (a0 : Option Addr) (len0 cap0 : Nat) (z0 : List Int) (a1 : Int) (w : World) (w0 : IsRow .u8 w a0 len0 cap0 z0) (w1 : (Lit.int .u8 a1).wf = true) :
    Calls Try.prog 6 #[.slice a0 len0 cap0, .int .u8 a1] w fun e w' => e = .returned (.bool true) ∧ Below w.heap.size w w' := by
  obtain ⟨s0, wf⟩ := row_ints w0
  have BN := hide (show ∀ j, j < len0 → 0 ≤ (fun k => z0.getD k 0) j ∧ (fun k => z0.getD k 0) j ≤ 255 from fun j hj => bounds_u8 (wf j hj))
  obtain ⟨k0, k1⟩ := bounds_u8 w1
  clear w0 wf w1
  generalize (fun k => z0.getD k 0) = c0 at *
  have S0 := hide s0
  obtain ⟨b0, q0, e0, h0⟩ := s0
  cases e0
  have H0 := hide h0
  clear h0
  obtain ⟨i0, hi0, hz0, hz1, hz2⟩ := info_parts Gth.info3
  by_cases g0 : 60 < len0
  · have g0' : (60 : Int) < (len0 : Int) := by omega
    go_enter Try.func6, Try.ntmps6
    go_wp2_with (go_at_call 8; refine (ans8 _).mono ?_; rintro e w2 ⟨rfl, b2⟩; have B2 := hide b2; clear b2)
    go_ret
    exact ⟨rfl, unhide B2⟩
  · have g0' : decide ((60 : Int) < (len0 : Int)) = false := decide_eq_false (by omega)
    go_enter Try.func6, Try.ntmps6
    go_wp2
    go_loopw [5, 6, 7] (fun v x i wr => ∃ k : Nat, k ≤ len0 ∧ i = .int .i64 k ∧ x = .int .i64 (sumZ c0 k) ∧ 0 ≤ sumZ c0 k ∧ sumZ c0 k ≤ 255 * k ∧ Gth w wr v c0 k) (fun _ _ i _ => len0 - (intOf i).toNat)
    case atStart => exact ⟨0, Nat.zero_le _, rfl, rfl, Int.le_refl _, Int.le_refl _, Gth.start w _⟩
    case round =>
      obtain ⟨k, hk, rfl, rfl, sl, sh, gth⟩ := hrel
      have GT := hide gth
      by_cases hlt : k < len0
      · have hlt' : (k : Int) < (len0 : Int) := by omega
        obtain ⟨b, off, rfl, hc⟩ := unhide H0 k hlt
        have hc' := (gth.bel.cell (p := ⟨b, off + k, none⟩) (lt_of_cell hc)).trans hc
        have hbl := lt_of_cell hc
        have GB := hide gth.bel.size
        have bn := unhide BN k hlt
        have SS := hide (show sumZ c0 (k + 1) = sumZ c0 k + c0 k from rfl)
        clear gth hc
        generalize sumZ c0 k = sk at *
        go_wp2_with (first | (at_builtin; refine wpList_append_own _ rfl (.tmp 23) (.tmp 29) 22 rfl w.heap.size 3 i0 (.int .i64 0) 1 8 Try.underlying22 hi0 hz0 hz1 hz2 rfl (by decide) _ k (cells c0 k) rfl ((unhide GT).own.alloc _) ⟨wr.heap.size, 0, none⟩ 1 1 [.int .i64 (c0 k)] rfl rfl (cell_one_new _ _ _) (one_one _) (by unfold maxLen; omega) (by omega) (by have := (unhide GT).bel.size; simp; omega) ?_; intro v1 w1 own1 gr1 _; have GA1 := hide ((unhide GT).app own1 gr1 rfl); have hc2 := ((unhide GA1).bel.cell (p := ⟨b, off + k, none⟩) hbl).trans (((unhide GT).bel.cell (p := ⟨b, off + k, none⟩) hbl).symm.trans hc'); clear own1 gr1) | fail)
        go_roundw
        case rel => exact ⟨k + 1, by omega, by go_num, by rw [unhide SS], by rw [unhide SS]; omega, by rw [unhide SS]; omega, unhide GA1⟩
        case measure => simp [intOf]; omega
      · obtain rfl : k = len0 := by omega
        have hnl : ¬ (k : Int) < (k : Int) := by omega
        obtain ⟨va, vc, rfl⟩ := gth.slice
        obtain ⟨m, hm⟩ : ∃ m : Nat, (6 : Int) + a1 % 9 = (m : Int) := ⟨((6 : Int) + a1 % 9).toNat, by omega⟩
        have hm1 : 6 ≤ m := by omega
        have hm2 : m ≤ 14 := by omega
        have hpl := pos_len c0 k
        have hp6 : 2 ^ 6 ≤ 2 ^ m := Nat.pow_le_pow_right (by omega) hm1
        have hp7 : 2 ^ 6 ≤ 2 ^ (m + 1) := Nat.pow_le_pow_right (by omega) (by omega)
        have HN := hide (show (pos c0 k).length ≤ 2 ^ m by omega)
        have HN1 := hide (show (pos c0 k).length ≤ 2 ^ (m + 1) by omega)
        have HN6 := hide (show (pos c0 k).length ≤ 2 ^ 6 by omega)
        have OK := hide (show Okc c0 k from fun x hx => by have := unhide BN x hx; omega)
        have CB := hide (bst_ok par24 _ k m c0 wr (unhide GT).ints (by omega) (unhide OK) (by omega) (by omega) (unhide HN))
        clear gth hlt hpl hp6 hp7
        go_wp2_with fail
        refine (unhide CB).mono ?_
        rintro e w1 ⟨u1, s1, M1, rfl, iu1, ln1, bb1⟩
        have B1 := hide ((unhide GT).bel.trans (bb1.mono (unhide GT).bel.size))
        have IC1 := hide ((unhide GT).ints.keep bb1)
        have IU1 := hide iu1
        have L1 := hide ln1
        have CB2 := hide (bst_ok par24 _ k (m + 1) c0 w1 (unhide IC1) (by omega) (unhide OK) (by omega) (by omega) (unhide HN1))
        clear iu1 ln1 bb1 CB
        go_wp2_with fail
        refine (unhide CB2).mono ?_
        rintro e w2 ⟨u2, s2, M2, rfl, iu2, ln2, bb2⟩
        have B2 := hide ((unhide B1).trans (bb2.mono (unhide B1).size))
        have IC2 := hide ((unhide IC1).keep bb2)
        have IA2 := hide ((unhide IU1).keep bb2)
        have IB2 := hide iu2
        have TA := lns_tot (unhide L1) (by omega) (by omega) (unhide HN) (by omega) (unhide OK)
        have TB := lns_tot ln2 (by omega) (by omega) (unhide HN1) (by omega) (unhide OK)
        have sy := sym_of (unhide L1).re (unhide L1).up
        rw [← wts_same (unhide L1).re (unhide L1).up ln2.re ln2.up] at TB
        have wl : (wts c0 (fun i => (s1 i : Int)) (pos c0 k).length).length = (pos c0 k).length := wts_len _ _ _
        have x1 := cw_mono sy m 1 (by omega) (by rw [wl]; exact unhide HN)
        have x2 := cw_mono sy 6 (m - 6) (by omega) (by rw [wl]; exact unhide HN6)
        rw [show 6 + (m - 6) = m by omega] at x2
        have x3 := (cw_flat sy 6 (by omega) (by rw [wl]; exact unhide HN6)).1
        rw [wts_all (unhide L1).re (fun x hx => (unhide BN x hx).1)] at x3
        rw [← TA, ← TB] at x1
        rw [← TA] at x2
        have xa : tot c0 (fun i => (M1 i : Int)) k ≤ 6 * sumZ c0 k := Int.le_trans x2 x3
        clear x2 x3 TA TB sy wl ln2 iu2 bb2 CB2
        have CA := hide (fun w' (hb : Below w2.heap.size w2 w') => tot11 _ _ k k c0 (fun i => (M1 i : Int)) w' (by omega) (by omega) ((unhide IC2).keep hb) ((unhide IA2).keep hb))
        have CC := hide (fun w' (hb : Below w2.heap.size w2 w') => tot11 _ _ k k c0 (fun i => (M2 i : Int)) w' (by omega) (by omega) ((unhide IC2).keep hb) ((unhide IB2).keep hb))
        rw [Nat.min_self] at CA CC
        generalize tot c0 (fun i => (M1 i : Int)) k = A at *
        generalize tot c0 (fun i => (M2 i : Int)) k = B at *
        generalize sumZ c0 k = sk at *
        have d1 : decide (B ≤ A) = true := decide_eq_true x1
        have d2 : decide (A ≤ 6 * sk) = true := decide_eq_true xa
        go_wp2_with fail
        refine (ans8 _).mono ?_
        rintro e w3 ⟨rfl, b3⟩
        have B3 := hide b3
        clear b3
        go_wp2_with fail
        refine (unhide CC w3 (unhide B3)).mono ?_
        rintro e w4 ⟨rfl, b4⟩
        have B4 := hide ((unhide B3).trans (b4.mono (unhide B3).size))
        clear b4
        go_wp2_with fail
        refine (unhide CA w4 (unhide B4)).mono ?_
        rintro e w5 ⟨rfl, b5⟩
        have B5 := hide ((unhide B4).trans (b5.mono (unhide B4).size))
        clear b5
        go_wp2_with fail
        refine (unhide CA w5 (unhide B5)).mono ?_
        rintro e w6 ⟨rfl, b6⟩
        have B6 := hide ((unhide B2).trans (((unhide B5).trans (b6.mono (unhide B5).size)).mono (unhide B2).size))
        clear b6
        go_wp2
        go_ret
        exact ⟨by simp, unhide B6⟩

/-! ### THE ROW's STEP: WRITTEN OUT: LEAVE IT -/
set_option maxRecDepth 100000 in
theorem lifted (os : Os) (started : os.Started) (H : Type) (enc : TypeId × Value → H) :
    ReturnsInHanded {} Try.checked os 6 .any (Rows.sizeWideSpec.pre6 enc Try.prog Try.f6 Rows.sizeWideRow.domain false) (Rows.sizeWideSpec.post enc Try.prog Try.f6 false true false false) := by
  refine returnsInHanded_of_change (C := Try.checked) own started (by kernel_rfl) Try.func6
    (ChangeSpec.witness6 (enc := enc) (C := Try.checked) false ⟨#[], #[.slice none 0 0, .int .u8 0], []⟩ 8 (by kernel_rfl) (by kernel_rfl) (by kernel_rfl) (by kernel_rfl)) ?_
  intro W base args ds gs before hval0 hW hcnd _
  have hval : ∀ (j : Nat) t v, Try.f6.params[j]? = some t → args[j]? = some v → Value.okWide Try.prog W .any base t v := hval0
  have hW' := hW
  obtain ⟨p, q, hA0, hV, rfl, hfz, hnd⟩ := hW
  have hA : DataW.TrodAll enc Try.prog W 0 (fun _ => true) true Try.f6.params.toList args.toList ds p := hA0
  rw [Try.params6] at hA hval
  obtain ⟨v0, vs0, d0, ds0, p0, q0, hargs, rfl, rfl, h0, r0⟩ := trodAll_cons hA
  obtain ⟨v1, vs1, d1, ds1, p1, q1, rfl, rfl, rfl, h1, r1⟩ := trodAll_cons r0
  obtain ⟨rfl, rfl, rfl⟩ := trodAll_nil r1
  obtain rfl : args = #[v0, v1] := by cases args; simp_all
  obtain ⟨rfl, rfl⟩ := trodVars_none hV
  obtain ⟨a0, len0, cap0, rfl⟩ := okWide_slice Try.underlying36 (hval 0 36 v0 rfl rfl)
  have k0 := h0
  have lt0 : ∀ x ∈ p0, x.block < W.heap.size := by obtain ⟨m, hm⟩ := k0; exact DataW.trod_lt m _ _ _ hm
  obtain ⟨z0, w0⟩ : ∃ zs, IsRow .u8 W a0 len0 cap0 zs := by
    obtain ⟨fuel, hf⟩ := h0
    rcases open_ints Try.underlying36 Try.underlying5 (by kernel_rfl) hf with ⟨hcs, _⟩ | ⟨x, l, c, zs, hcs, _, hl, hm, hz, _, hcell, hwz⟩
    · simp [Value.cells] at hcs
      obtain ⟨rfl, rfl, rfl⟩ := hcs
      exact ⟨[], .inl ⟨rfl, rfl, rfl, rfl⟩⟩
    · simp [Value.cells] at hcs
      obtain ⟨rfl, rfl, rfl⟩ := hcs
      exact ⟨zs, .inr ⟨_, rfl, hl, hm, by simpa using hz, hcell, hwz⟩⟩
  obtain ⟨a1, rfl, rfl, rfl, w1⟩ := open_int Try.underlying5 (hval 1 5 v1 rfl rfl) h1
  clear hA0 hval0
  refine (walk a0 len0 cap0 z0 a1 W w0 w1).mono fun e W' ⟨he, bel⟩ => ?_
  subst he
  exact ⟨_, rfl, _, _, _, [], _, [], hW', trodAll_mk1 (shut_bool Try.underlying4 _), (trodAll_cons_mk (Below.trod laidOut (by kernel_rfl) (of_decide_eq_true (by kernel_rfl)) k0 bel lt0) (trodAll_cons_mk (shut_int Try.underlying5 w1) trodAll_mk0)), rfl, bel.frame _, fun h => by cases h⟩

theorem over : Rows.sizeWideRow.holds Try.pinned (OpenSpec.ofChange Rows.sizeWideSpec) :=
  OpenClaim.holds_of_wide 6 Try.f6 rfl rfl rfl rfl rfl rfl rfl ⟨rfl, rfl, rfl, rfl, rfl⟩ rfl rfl rfl rfl rfl (by kernel_rfl) Try.func6 (by kernel_rfl)
    (of_decide_eq_true (by kernel_rfl)) (by unfold Func.isWrapper; first | (rw [if_pos (by decide +kernel)]; kernel_rfl) | (rw [if_neg (by decide +kernel)]; exact ⟨rfl, rfl⟩))
    (fun os started H enc _ => lifted os started H enc)

/-- ████ THE STATEMENT ████ -/
theorem proved : Rows.SizeWideSaid := over
#print axioms proved
end Go.Proofs.Ytcfnbbelbadmkaa.sizeWide
