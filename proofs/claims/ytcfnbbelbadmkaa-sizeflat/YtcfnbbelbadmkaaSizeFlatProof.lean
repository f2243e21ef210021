/-
  What is proved: Of as many symbols as two to some number, all alike, size.Best answers for each that length.
  Conditions: none.
-/
import Derived.Test.YtcfnbbelbadmkaaRows
import Derived.Test.YtcfnbbelbadmkaaFlt
import Derived.WalkKit
import Derived.ProofKit
import Derived.OpenShut
import Derived.ShutString
import Derived.ChangeOld
import Derived.Below
namespace Go.Proofs.Ytcfnbbelbadmkaa.sizeFlat
open Go.ChangeShapes Go.WideShapes Go.ChangeAt Go.RowKit
open Go.Proofs.Ytcfnbbelbadmkaa.Core Go.Proofs.Ytcfnbbelbadmkaa.Gnd Go.Proofs.Ytcfnbbelbadmkaa.Ris Go.Proofs.Ytcfnbbelbadmkaa.Bst Go.Proofs.Ytcfnbbelbadmkaa.Par Go.Proofs.Ytcfnbbelbadmkaa.Gth Go.Proofs.Ytcfnbbelbadmkaa.Ans Go.Proofs.Ytcfnbbelbadmkaa.Flt
open Go.ChangeMaps (open_string shut_string)
set_option linter.unusedVariables false      -- a walk need not use every 'w<i>' (that an integer argument fits its kind)

theorem own : ownKnob Try.prog.godebug = none := by kernel_rfl


set_option maxRecDepth 20000 in
set_option maxHeartbeats 1000000 in
theorem walk (a0 : Int) (a1 : Int) (a2 : Int) (w0 : (Lit.int .u8 a0).wf = true) (w1 : (Lit.int .u8 a1).wf = true) (w2 : (Lit.int .u8 a2).wf = true) (w : World) :
    Calls Try.prog 7 #[.int .u8 a0, .int .u8 a1, .int .u8 a2] w fun e w' => e = .returned (.bool true) ∧ Below w.heap.size w w' := by
  obtain ⟨k0, k1⟩ := bounds_u8 w0
  obtain ⟨n0, n1⟩ := bounds_u8 w1
  obtain ⟨m0, m1⟩ := bounds_u8 w2
  clear w0 w1 w2
  obtain ⟨b, hb⟩ : ∃ b : Nat, a0 % 7 + 1 = (b : Int) := ⟨(a0 % 7 + 1).toNat, by omega⟩
  have b1 : 1 ≤ b := by omega
  have b7 : b ≤ 7 := by omega
  obtain ⟨P, hP⟩ : ∃ P : Nat, wrap64 ((2 : Int) ^ b) = (P : Int) ∧ P = 2 ^ b := ⟨2 ^ b, by
    have h1 : 2 ^ b ≤ 2 ^ 7 := Nat.pow_le_pow_right (by omega) b7
    have e : ((2 ^ b : Nat) : Int) = (2 : Int) ^ b := by simp
    rw [← e]
    generalize 2 ^ b = z at *
    simp [wrap64]
    omega, rfl⟩
  obtain ⟨hP, hP2⟩ := hP
  have hP7 : P ≤ 128 := by
    have h1 : 2 ^ b ≤ 2 ^ 7 := Nat.pow_le_pow_right (by omega) b7
    omega
  have HP2 := hide hP2
  clear hP2
  obtain ⟨i0, hi0, hz0, hz1, hz2⟩ := info_parts Gth.info3
  go_enter Try.func7, Try.ntmps7
  go_wp2
  go_loopw [8, 9] (fun v i wr => ∃ k : Nat, k ≤ P ∧ i = .int .i64 k ∧ Gth w wr v (fun _ => a1 + 1) k) (fun _ i _ => P - (intOf i).toNat)
  case atStart => exact ⟨0, Nat.zero_le _, rfl, Gth.start w _⟩
  case round =>
    obtain ⟨k, hk, rfl, gth⟩ := hrel
    have GT := hide gth
    by_cases hlt : k < P
    · have hlt' : (k : Int) < (P : Int) := by omega
      clear gth
      go_wp2_with (first | (at_builtin; refine wpList_append_own _ rfl (.tmp 24) (.tmp 28) 22 rfl w.heap.size 3 i0 (.int .i64 0) 1 8 Try.underlying22 hi0 hz0 hz1 hz2 rfl (by decide) _ k (cells (fun _ => a1 + 1) k) rfl ((unhide GT).own.alloc _) ⟨wr.heap.size, 0, none⟩ 1 1 [.int .i64 (a1 + 1)] rfl rfl (cell_one_new _ _ _) (one_one _) (by unfold maxLen; omega) (by omega) (by have := (unhide GT).bel.size; simp; omega) ?_; intro v1 w1 own1 gr1 _; have GA1 := hide ((unhide GT).app own1 gr1 rfl); clear own1 gr1) | fail)
      go_roundw
      case rel => exact ⟨k + 1, by omega, by go_num, unhide GA1⟩
      case measure => simp [intOf]; omega
    · obtain rfl : k = P := by omega
      have hnl : ¬ (k : Int) < (k : Int) := by omega
      obtain ⟨va, vc, rfl⟩ := gth.slice
      clear gth
      have r0 : 0 ≤ a2 % (16 - (b : Int)) := Int.emod_nonneg _ (by omega)
      have r1 : a2 % (16 - (b : Int)) < 16 - (b : Int) := Int.emod_lt_of_pos _ (by omega)
      obtain ⟨m, hm⟩ : ∃ m : Nat, (b : Int) + a2 % (16 - (b : Int)) = (m : Int) := ⟨((b : Int) + a2 % (16 - (b : Int))).toNat, by omega⟩
      have hm1 : b ≤ m := by omega
      have hm2 : m ≤ 15 := by omega
      have hmw : wrap64 ((b : Int) + a2 % (16 - (b : Int))) = (m : Int) := by rw [hm]; simp [wrap64]; omega
      have hpl : (pos (fun _ => a1 + 1) k).length = k := pos_all _ (fun _ _ => by omega)
      have CB := hide (bst_ok par24 _ k m (fun _ => a1 + 1) wr (unhide GT).ints (by omega) (fun _ _ => ⟨by show 0 ≤ a1 + 1; omega, by show a1 + 1 ≤ 4294967296; omega⟩) (by omega) hm2 (by rw [hpl, unhide HP2]; exact Nat.pow_le_pow_right (by omega) hm1))
      clear r0 r1 hpl hlt hm
      go_wp2_with fail
      refine (unhide CB).mono ?_
      rintro e w1 ⟨u, s, M, rfl, iu, ln, bb⟩
      have ML := hide (show ∀ x, x < k → M x = b from fun x hx => by
        have := unhide HP2
        subst this
        exact flat_lens (by omega) b1 hm1 ln x hx)
      have IU := hide iu
      have B1 := hide ((unhide GT).bel.trans (bb.mono (unhide GT).bel.size))
      obtain ⟨ia, icap, rfl, hi⟩ := iu
      have HI := hide hi
      clear hi ln bb CB
      go_wp2
      go_loopw [12] (fun i wr => ∃ j : Nat, j ≤ k ∧ i = .int .i64 j ∧ wr = w1) (fun i _ => k - (intOf i).toNat)
      case atStart => exact ⟨0, Nat.zero_le _, rfl, rfl⟩
      case round =>
        obtain ⟨j, hj, rfl, rfl⟩ := hrel
        by_cases hlj : j < k
        · have hlj' : (j : Int) < (k : Int) := by omega
          obtain ⟨b', off, rfl, hc⟩ := unhide HI j hlj
          have hc' : wr.cell? ⟨b', off + j, none⟩ = some (.int .i64 (b : Int)) := by
            have h3 : wr.cell? ⟨b', off + j, none⟩ = some (.int .i64 ((M j : Nat) : Int)) := hc
            rw [unhide ML j hlj] at h3
            exact h3
          clear hc
          go_wp2
          go_roundw
          case rel => exact ⟨j + 1, by omega, by go_num, by first | rfl | trivial⟩
          case measure => simp [intOf]; omega
        · obtain rfl : j = k := by omega
          have hnl2 : ¬ (j : Int) < (j : Int) := by omega
          go_wp2_with fail
          refine (ans8 _).mono ?_
          rintro e w2 ⟨rfl, b2⟩
          have B2 := hide ((unhide B1).trans (b2.mono (unhide B1).size))
          clear b2
          go_wp2
          go_ret
          exact ⟨by simp, unhide B2⟩

/-! ### THE ROW's STEP: WRITTEN OUT: LEAVE IT -/
set_option maxRecDepth 100000 in
theorem lifted (os : Os) (started : os.Started) (H : Type) (enc : TypeId × Value → H) :
    ReturnsInHanded {} Try.checked os 7 .any (Rows.sizeFlatSpec.pre6 enc Try.prog Try.f7 Rows.sizeFlatRow.domain false) (Rows.sizeFlatSpec.post enc Try.prog Try.f7 false true false false) := by
  refine returnsInHanded_of_change (C := Try.checked) own started (by kernel_rfl) Try.func7
    (ChangeSpec.witness6 (enc := enc) (C := Try.checked) false ⟨#[], #[.int .u8 0, .int .u8 0, .int .u8 0], []⟩ 8 (by kernel_rfl) (by kernel_rfl) (by kernel_rfl) (by kernel_rfl)) ?_
  intro W base args ds gs before hval0 hW hcnd _
  have hval : ∀ (j : Nat) t v, Try.f7.params[j]? = some t → args[j]? = some v → Value.okWide Try.prog W .any base t v := hval0
  have hW' := hW
  obtain ⟨p, q, hA0, hV, rfl, hfz, hnd⟩ := hW
  have hA : DataW.TrodAll enc Try.prog W 0 (fun _ => true) true Try.f7.params.toList args.toList ds p := hA0
  rw [Try.params7] at hA hval
  obtain ⟨v0, vs0, d0, ds0, p0, q0, hargs, rfl, rfl, h0, r0⟩ := trodAll_cons hA
  obtain ⟨v1, vs1, d1, ds1, p1, q1, rfl, rfl, rfl, h1, r1⟩ := trodAll_cons r0
  obtain ⟨v2, vs2, d2, ds2, p2, q2, rfl, rfl, rfl, h2, r2⟩ := trodAll_cons r1
  obtain ⟨rfl, rfl, rfl⟩ := trodAll_nil r2
  obtain rfl : args = #[v0, v1, v2] := by cases args; simp_all
  obtain ⟨rfl, rfl⟩ := trodVars_none hV
  obtain ⟨a0, rfl, rfl, rfl, w0⟩ := open_int Try.underlying5 (hval 0 5 v0 rfl rfl) h0
  obtain ⟨a1, rfl, rfl, rfl, w1⟩ := open_int Try.underlying5 (hval 1 5 v1 rfl rfl) h1
  obtain ⟨a2, rfl, rfl, rfl, w2⟩ := open_int Try.underlying5 (hval 2 5 v2 rfl rfl) h2
  clear hA0 hval0
  refine (walk a0 a1 a2 w0 w1 w2 W).mono fun e W' ⟨he, bel⟩ => ?_
  subst he
  exact ⟨_, rfl, _, _, _, [], _, [], hW', trodAll_mk1 (shut_bool Try.underlying4 _), (trodAll_cons_mk (shut_int Try.underlying5 w0) (trodAll_cons_mk (shut_int Try.underlying5 w1) (trodAll_cons_mk (shut_int Try.underlying5 w2) trodAll_mk0))), rfl, bel.frame _, fun h => by cases h⟩

theorem over : Rows.sizeFlatRow.holds Try.pinned (OpenSpec.ofChange Rows.sizeFlatSpec) :=
  OpenClaim.holds_of_wide 7 Try.f7 rfl rfl rfl rfl rfl rfl rfl ⟨rfl, rfl, rfl, rfl, rfl⟩ rfl rfl rfl rfl rfl (by kernel_rfl) Try.func7 (by kernel_rfl)
    (of_decide_eq_true (by kernel_rfl)) (by unfold Func.isWrapper; first | (rw [if_pos (by decide +kernel)]; kernel_rfl) | (rw [if_neg (by decide +kernel)]; exact ⟨rfl, rfl⟩))
    (fun os started H enc _ => lifted os started H enc)

/-- ████ THE STATEMENT ████ -/
theorem proved : Rows.SizeFlatSaid :=
  over
#print axioms proved
end Go.Proofs.Ytcfnbbelbadmkaa.sizeFlat
