/-
  What is proved: Who comes more often has no longer code by size.Best, if lengths may be long enough.
  Conditions: none.
-/
import Derived.Test.YtcfnbbelbadmkaaRows
import Derived.Test.YtcfnbbelbadmkaaOrd
import Derived.WalkKit
import Derived.ProofKit
import Derived.OpenShut
import Derived.ShutString
import Derived.ChangeOld
import Derived.Below
namespace Go.Proofs.Ytcfnbbelbadmkaa.sizeOrder
open Go.ChangeShapes Go.WideShapes Go.ChangeAt Go.RowKit
open Go.Proofs.Ytcfnbbelbadmkaa.Core Go.Proofs.Ytcfnbbelbadmkaa.Gnd Go.Proofs.Ytcfnbbelbadmkaa.Ris Go.Proofs.Ytcfnbbelbadmkaa.Bst Go.Proofs.Ytcfnbbelbadmkaa.Par Go.Proofs.Ytcfnbbelbadmkaa.Mrg Go.Proofs.Ytcfnbbelbadmkaa.Gth Go.Proofs.Ytcfnbbelbadmkaa.Ans Go.Proofs.Ytcfnbbelbadmkaa.Ord
open Go.ChangeMaps (open_string shut_string)
set_option linter.unusedVariables false

theorem own : ownKnob Try.prog.godebug = none := by kernel_rfl
theorem laidOut : laidOutB Try.prog = true := by kernel_rfl

/-- WHAT THE WALK IS TOLD OF A SLICE OF INTEGERS THAT CAME IN: it is nil; or it leads to a row of 'cap' cells, the numbers 'zs' (the first 'len' are its elements, the rest its spare room), each fitting its kind. -/
def IsRow (k : IntKind) (w : World) (a : Option Addr) (len cap : Nat) (zs : List Int) : Prop :=
  (a = none ∧ len = 0 ∧ cap = 0 ∧ zs = []) ∨
  ∃ x, a = some x ∧ len ≤ cap ∧ cap ≤ maxLen ∧ zs.length = cap ∧ (∀ i, i < zs.length → w.cell? (x.add i) = some (.int k (zs.getD i 0))) ∧ ∀ n ∈ zs, (Lit.int k n).wf = true


set_option maxRecDepth 20000 in
set_option maxHeartbeats 1000000 in
theorem walk (a0 : Option Addr) (len0 cap0 : Nat) (z0 : List Int) (w : World) (w0 : IsRow .u16 w a0 len0 cap0 z0) :
    Calls Try.prog 5 #[.slice a0 len0 cap0] w fun e w' => e = .returned (.bool true) ∧ Below w.heap.size w w' := by
  obtain ⟨s0, wf⟩ := row_ints w0
  have BN := hide (show ∀ j, j < len0 → 0 ≤ (fun k => z0.getD k 0) j ∧ (fun k => z0.getD k 0) j ≤ 65535 from fun j hj => bounds_u16 (wf j hj))
  clear w0 wf
  generalize (fun k => z0.getD k 0) = c0 at *
  have S0 := hide s0
  obtain ⟨b0, q0, e0, h0⟩ := s0
  cases e0
  have H0 := hide h0
  clear h0
  obtain ⟨i0, hi0, hz0, hz1, hz2⟩ := info_parts Gth.info3
  by_cases g0 : 100 < len0
  · have g0' : (100 : Int) < (len0 : Int) := by omega
    go_enter Try.func5, Try.ntmps5
    go_wp2_with (go_at_call 8; refine (ans8 _).mono ?_; rintro e w2 ⟨rfl, b2⟩; have B2 := hide b2; clear b2)
    go_ret
    exact ⟨rfl, unhide B2⟩
  · have g0' : decide ((100 : Int) < (len0 : Int)) = false := decide_eq_false (by omega)
    go_enter Try.func5, Try.ntmps5
    go_wp2
    go_loopw [3, 4] (fun v i wr => ∃ k : Nat, k ≤ len0 ∧ i = .int .i64 k ∧ Gth w wr v c0 k) (fun _ i _ => len0 - (intOf i).toNat)
    case atStart => exact ⟨0, Nat.zero_le _, rfl, Gth.start w _⟩
    case round =>
      obtain ⟨k, hk, rfl, gth⟩ := hrel
      have GT := hide gth
      by_cases hlt : k < len0
      · have hlt' : (k : Int) < (len0 : Int) := by omega
        obtain ⟨b, off, rfl, hc⟩ := unhide H0 k hlt
        have hc' := (gth.bel.cell (p := ⟨b, off + k, none⟩) (lt_of_cell hc)).trans hc
        have bn := unhide BN k hlt
        clear gth hc
        go_wp2_with (first | (at_builtin; refine wpList_append_own _ rfl (.tmp 19) (.tmp 25) 22 rfl w.heap.size 3 i0 (.int .i64 0) 1 8 Try.underlying22 hi0 hz0 hz1 hz2 rfl (by decide) _ k (cells c0 k) rfl ((unhide GT).own.alloc _) ⟨wr.heap.size, 0, none⟩ 1 1 [.int .i64 (c0 k)] rfl rfl (cell_one_new _ _ _) (one_one _) (by unfold maxLen; omega) (by omega) (by have := (unhide GT).bel.size; simp; omega) ?_; intro v1 w1 own1 gr1 _; have GA1 := hide ((unhide GT).app own1 gr1 rfl); clear own1 gr1) | fail)
        go_roundw
        case rel => exact ⟨k + 1, by omega, by go_num, unhide GA1⟩
        case measure => simp [intOf]; omega
      · obtain rfl : k = len0 := by omega
        have hnl : ¬ (k : Int) < (k : Int) := by omega
        obtain ⟨va, vc, rfl⟩ := gth.slice
        have hpl := pos_len c0 k
        have HN := hide (show (pos c0 k).length ≤ 2 ^ 15 by omega)
        have CB := hide (bst_ok par24 _ k 15 c0 wr (unhide GT).ints (by omega) (fun x hx => by have := unhide BN x hx; omega) (by omega) (by omega) (unhide HN))
        clear gth hlt hpl
        go_wp2_with fail
        refine (unhide CB).mono ?_
        rintro e w1 ⟨u, s, M, rfl, iu, ln, bb⟩
        have ML := hide (fun i j hi hj h0 h1 => ord_lens ln (by omega) (unhide HN) (i := i) (k := j) hi hj h0 h1)
        have B1 := hide ((unhide GT).bel.trans (bb.mono (unhide GT).bel.size))
        obtain ⟨ca, ccap, ce, hci⟩ := (unhide GT).ints.keep bb
        cases ce
        have HC := hide hci
        obtain ⟨ia, icap, rfl, hi⟩ := iu
        have HI := hide hi
        clear hi ln bb CB hci
        go_wp2
        go_loopw [7] (fun x wr => ∃ i : Nat, i ≤ k ∧ x = .int .i64 i ∧ Below w1.heap.size w1 wr) (fun x _ => k - (intOf x).toNat)
        case atStart => exact ⟨0, Nat.zero_le _, rfl, Below.refl _ _⟩
        case round =>
          obtain ⟨i, hik, rfl, bel⟩ := hrel
          have BE := hide bel
          clear bel
          by_cases hli : i < k
          · have hli' : (i : Int) < (k : Int) := by omega
            go_wp2
            go_loopw [8] (fun x wr => ∃ j : Nat, j ≤ k ∧ x = .int .i64 j ∧ Below w1.heap.size w1 wr) (fun x _ => k - (intOf x).toNat)
            case atStart => exact ⟨0, Nat.zero_le _, rfl, unhide BE⟩
            case round =>
              clear BE
              obtain ⟨j, hjk, rfl, bel⟩ := hrel
              have BE := hide bel
              by_cases hlj : j < k
              · have hlj' : (j : Int) < (k : Int) := by omega
                obtain ⟨b, off, rfl, d1⟩ := unhide HC i hli
                obtain ⟨b', off', e', d2⟩ := unhide HC j hlj
                cases e'
                obtain ⟨b2, off2, rfl, d3⟩ := unhide HI i hli
                obtain ⟨b2', off2', e2', d4⟩ := unhide HI j hlj
                cases e2'
                have f1 := (bel.cell (p := ⟨b, off + i, none⟩) (lt_of_cell d1)).trans d1
                have f2 := (bel.cell (p := ⟨b, off + j, none⟩) (lt_of_cell d2)).trans d2
                have f3 : wr.cell? ⟨b2, off2 + i, none⟩ = some (.int .i64 ((M i : Nat) : Int)) := (bel.cell (p := ⟨b2, off2 + i, none⟩) (lt_of_cell d3)).trans d3
                have f4 : wr.cell? ⟨b2, off2 + j, none⟩ = some (.int .i64 ((M j : Nat) : Int)) := (bel.cell (p := ⟨b2, off2 + j, none⟩) (lt_of_cell d4)).trans d4
                have ml := fun h0 h1 => unhide ML i j hli hlj h0 h1
                clear d1 d2 d3 d4 bel
                generalize c0 i = x at *
                generalize c0 j = y at *
                generalize M i = p at *
                generalize M j = q at *
                by_cases t1 : y < x
                · have t1' : decide (y < x) = true := decide_eq_true t1
                  by_cases t2 : 0 < y
                  · have t2' : decide (0 < y) = true := decide_eq_true t2
                    have t3 := ml t2 t1
                    have t3' : decide ((q : Int) < (p : Int)) = false := decide_eq_false (by omega)
                    clear ml
                    go_wp2
                    go_quiet ((fail))
                    rename_i nq
                    have BQ := hide (below_drewN (unhide BE) nq)
                    clear f1 f2 f3 f4
                    generalize wr.drewN nq = wq at *
                    go_wp2
                    go_roundw
                    case rel => exact ⟨j + 1, by omega, by go_num, unhide BQ⟩
                    case measure => simp [intOf]; omega
                  · have t2' : decide (0 < y) = false := decide_eq_false t2
                    clear ml
                    go_wp2
                    go_quiet ((fail))
                    rename_i nq
                    have BQ := hide (below_drewN (unhide BE) nq)
                    clear f1 f2 f3 f4
                    generalize wr.drewN nq = wq at *
                    go_wp2
                    go_roundw
                    case rel => exact ⟨j + 1, by omega, by go_num, unhide BQ⟩
                    case measure => simp [intOf]; omega
                · have t1' : decide (y < x) = false := decide_eq_false t1
                  clear ml
                  go_wp2
                  go_quiet ((fail))
                  rename_i nq
                  have BQ := hide (below_drewN (unhide BE) nq)
                  clear f1 f2 f3 f4
                  generalize wr.drewN nq = wq at *
                  go_wp2
                  go_roundw
                  case rel => exact ⟨j + 1, by omega, by go_num, unhide BQ⟩
                  case measure => simp [intOf]; omega
              · obtain rfl : j = k := by omega
                have hnl2 : ¬ (j : Int) < (j : Int) := by omega
                clear bel hlj
                go_wp2
                go_roundw
                case rel => exact ⟨i + 1, by omega, by go_num, unhide BE⟩
                case measure => simp [intOf]; omega
          · obtain rfl : i = k := by omega
            have hnl2 : ¬ (i : Int) < (i : Int) := by omega
            clear hli
            go_wp2_with fail
            refine (ans8 _).mono ?_
            rintro e w2 ⟨rfl, b2⟩
            have B2 := hide (((unhide B1).trans ((unhide BE).mono (unhide B1).size)).trans (b2.mono (((unhide B1).trans ((unhide BE).mono (unhide B1).size)).size)))
            clear b2
            go_wp2
            go_ret
            exact ⟨by simp, unhide B2⟩

/-! ### THE ROW's STEP: WRITTEN OUT: LEAVE IT -/
set_option maxRecDepth 100000 in
theorem lifted (os : Os) (started : os.Started) (H : Type) (enc : TypeId × Value → H) :
    ReturnsInHanded {} Try.checked os 5 .any (Rows.sizeOrderSpec.pre6 enc Try.prog Try.f5 Rows.sizeOrderRow.domain false) (Rows.sizeOrderSpec.post enc Try.prog Try.f5 false true false false) := by
  refine returnsInHanded_of_change (C := Try.checked) own started (by kernel_rfl) Try.func5
    (ChangeSpec.witness6 (enc := enc) (C := Try.checked) false ⟨#[], #[.slice none 0 0], []⟩ 8 (by kernel_rfl) (by kernel_rfl) (by kernel_rfl) (by kernel_rfl)) ?_
  intro W base args ds gs before hval0 hW hcnd _
  have hval : ∀ (j : Nat) t v, Try.f5.params[j]? = some t → args[j]? = some v → Value.okWide Try.prog W .any base t v := hval0
  have hW' := hW
  obtain ⟨p, q, hA0, hV, rfl, hfz, hnd⟩ := hW
  have hA : DataW.TrodAll enc Try.prog W 0 (fun _ => true) true Try.f5.params.toList args.toList ds p := hA0
  rw [Try.params5] at hA hval
  obtain ⟨v0, vs0, d0, ds0, p0, q0, hargs, rfl, rfl, h0, r0⟩ := trodAll_cons hA
  obtain ⟨rfl, rfl, rfl⟩ := trodAll_nil r0
  obtain rfl : args = #[v0] := by cases args; simp_all
  obtain ⟨rfl, rfl⟩ := trodVars_none hV
  obtain ⟨a0, len0, cap0, rfl⟩ := okWide_slice Try.underlying33 (hval 0 33 v0 rfl rfl)
  have k0 := h0
  have lt0 : ∀ x ∈ p0, x.block < W.heap.size := by obtain ⟨m, hm⟩ := k0; exact DataW.trod_lt m _ _ _ hm
  obtain ⟨z0, w0⟩ : ∃ zs, IsRow .u16 W a0 len0 cap0 zs := by
    obtain ⟨fuel, hf⟩ := h0
    rcases open_ints Try.underlying33 Try.underlying34 (by kernel_rfl) hf with ⟨hcs, _⟩ | ⟨x, l, c, zs, hcs, _, hl, hm, hz, _, hcell, hwz⟩
    · simp [Value.cells] at hcs
      obtain ⟨rfl, rfl, rfl⟩ := hcs
      exact ⟨[], .inl ⟨rfl, rfl, rfl, rfl⟩⟩
    · simp [Value.cells] at hcs
      obtain ⟨rfl, rfl, rfl⟩ := hcs
      exact ⟨zs, .inr ⟨_, rfl, hl, hm, by simpa using hz, hcell, hwz⟩⟩
  clear hA0 hval0
  refine (walk a0 len0 cap0 z0 W w0).mono fun e W' ⟨he, bel⟩ => ?_
  subst he
  exact ⟨_, rfl, _, _, _, [], _, [], hW', trodAll_mk1 (shut_bool Try.underlying4 _), (trodAll_cons_mk (Below.trod laidOut (by kernel_rfl) (of_decide_eq_true (by kernel_rfl)) k0 bel lt0) trodAll_mk0), rfl, bel.frame _, fun h => by cases h⟩

theorem over : Rows.sizeOrderRow.holds Try.pinned (OpenSpec.ofChange Rows.sizeOrderSpec) :=
  OpenClaim.holds_of_wide 5 Try.f5 rfl rfl rfl rfl rfl rfl rfl ⟨rfl, rfl, rfl, rfl, rfl⟩ rfl rfl rfl rfl rfl (by kernel_rfl) Try.func5 (by kernel_rfl)
    (of_decide_eq_true (by kernel_rfl)) (by unfold Func.isWrapper; first | (rw [if_pos (by decide +kernel)]; kernel_rfl) | (rw [if_neg (by decide +kernel)]; exact ⟨rfl, rfl⟩))
    (fun os started H enc _ => lifted os started H enc)

/-- ████ THE STATEMENT ████ -/
theorem proved : Rows.SizeOrderSaid := over
#print axioms proved
end Go.Proofs.Ytcfnbbelbadmkaa.sizeOrder
