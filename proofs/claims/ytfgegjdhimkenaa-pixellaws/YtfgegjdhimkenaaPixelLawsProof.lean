/-
  What is proved: for every two pixels the Go function PixelLaws of the statements of layer 11 returns true, and its arguments read as before.
  Conditions: none.
-/
import Derived.Test.YtfgegjdhimkenaaRows
import Derived.Test.YtfgegjdhimkenaaGoo
import Derived.WalkKit
import Derived.ProofKit
import Derived.OpenShut
import Derived.ShutString
import Derived.ChangeOld
import Derived.Below
namespace Go.Proofs.Ytfgegjdhimkenaa.pixelLaws
open Go.ChangeShapes Go.WideShapes Go.ChangeAt Go.RowKit
open Go.Proofs.Ytfgegjdhimkenaa.Core Go.Proofs.Ytfgegjdhimkenaa.Num Go.Proofs.Ytfgegjdhimkenaa.Prt Go.Proofs.Ytfgegjdhimkenaa.Fun Go.Proofs.Ytfgegjdhimkenaa.Rfn Go.Proofs.Ytfgegjdhimkenaa.Goo
open Go.ChangeMaps (open_string shut_string)
set_option linter.unusedVariables false      -- a walk need not use every 'w<i>' (that an integer argument fits its kind)

theorem own : ownKnob Try.prog.godebug = none := by kernel_rfl


set_option maxRecDepth 20000 in
set_option maxHeartbeats 1000000 in
theorem walk (a0 : Int) (a1 : Int) (w0 : (Lit.int .u32 a0).wf = true) (w1 : (Lit.int .u32 a1).wf = true) (w : World) :
    Calls Try.prog 5 #[.int .u32 a0, .int .u32 a1] w fun e w' => e = .returned (.bool true) ∧ Below w.heap.size w w' := by
  have b0 := bounds_u32 w0
  have b1 := bounds_u32 w1
  clear w0 w1
  obtain ⟨p, rfl⟩ := Int.eq_ofNat_of_zero_le b0.1
  obtain ⟨q, rfl⟩ := Int.eq_ofNat_of_zero_le b1.1
  have E1 := hide (sub_add (p := p) q (by omega))
  have E2 := hide (add_sub (p := p) q (by omega))
  have E3 := hide (avg_self (p := p) (by omega))
  clear b0 b1
  go_enter Try.func5, Try.ntmps5
  go_wp2_with fail
  refine (avg16 p q _).mono ?_
  rintro e w1 ⟨rfl, b1⟩
  have B1 := hide b1
  clear b1
  go_wp2
  go_loop [6] (fun k => ∃ j : Nat, j ≤ 4 ∧ k = .int .i64 j) (fun k => 4 - (intOf k).toNat)
  case atStart => exact ⟨0, by omega, rfl⟩
  case round =>
    obtain ⟨j, hj, rfl⟩ := hrel
    by_cases hlt : j < 4
    · have hlt' : (j : Int) < 4 := by omega
      have P1 := hide (part10 p j hlt)
      have P2 := hide (part10 q j hlt)
      have P3 := hide (part10 (avgV p q) j hlt)
      have bt := avg_between p q hlt
      have bd : (pt p j ≤ pt (avgV p q) j ∧ pt (avgV p q) j ≤ pt q j) ∨ (pt q j ≤ pt (avgV p q) j ∧ pt (avgV p q) j ≤ pt p j) := by omega
      clear bt
      generalize pt p j = x at *
      generalize pt q j = y at *
      generalize pt (avgV p q) j = z at *
      by_cases c1 : z < x
      · have c2 : ¬ z < y := by omega
        have c3 : ¬ x < z := by omega
        clear bd
        go_wp2_with fail
        refine (unhide P1 _).mono ?_
        rintro e w' ⟨rfl, rfl⟩
        go_wp2_with fail
        refine (unhide P2 _).mono ?_
        rintro e w' ⟨rfl, rfl⟩
        go_wp2_with fail
        refine (unhide P3 _).mono ?_
        rintro e w' ⟨rfl, rfl⟩
        go_wp2
        go_round
        case rel => exact ⟨j + 1, by omega, by go_num⟩
        case measure => simp [intOf]; omega
      · by_cases c2 : x < z
        · have c3 : ¬ y < z := by omega
          clear bd
          go_wp2_with fail
          refine (unhide P1 _).mono ?_
          rintro e w' ⟨rfl, rfl⟩
          go_wp2_with fail
          refine (unhide P2 _).mono ?_
          rintro e w' ⟨rfl, rfl⟩
          go_wp2_with fail
          refine (unhide P3 _).mono ?_
          rintro e w' ⟨rfl, rfl⟩
          go_wp2
          go_round
          case rel => exact ⟨j + 1, by omega, by go_num⟩
          case measure => simp [intOf]; omega
        · clear bd
          go_wp2_with fail
          refine (unhide P1 _).mono ?_
          rintro e w' ⟨rfl, rfl⟩
          go_wp2_with fail
          refine (unhide P2 _).mono ?_
          rintro e w' ⟨rfl, rfl⟩
          go_wp2_with fail
          refine (unhide P3 _).mono ?_
          rintro e w' ⟨rfl, rfl⟩
          go_wp2
          go_round
          case rel => exact ⟨j + 1, by omega, by go_num⟩
          case measure => simp [intOf]; omega
    · obtain rfl : j = 4 := by omega
      clear hlt
      go_wp2_with fail
      refine (ans9 _).mono ?_
      rintro e w2 ⟨rfl, b2⟩
      have B2 := hide ((unhide B1).trans (b2.mono (unhide B1).size))
      clear b2
      go_wp2_with fail
      refine (add12 p q _).mono ?_
      rintro e w3 ⟨rfl, b3⟩
      have B3 := hide ((unhide B2).trans (b3.mono (unhide B2).size))
      clear b3
      go_wp2_with fail
      refine (sub14 (addV p q) q _).mono ?_
      rintro e w4 ⟨rfl, b4⟩
      have B4 := hide ((unhide B3).trans (b4.mono (unhide B3).size))
      clear b4
      rw [unhide E1]
      go_wp2_with fail
      refine (sub14 p q _).mono ?_
      rintro e w5 ⟨rfl, b5⟩
      have B5 := hide ((unhide B4).trans (b5.mono (unhide B4).size))
      clear b5
      go_wp2_with fail
      refine (add12 (subV p q) q _).mono ?_
      rintro e w6 ⟨rfl, b6⟩
      have B6 := hide ((unhide B5).trans (b6.mono (unhide B5).size))
      clear b6
      rw [unhide E2]
      go_wp2_with fail
      refine (add12 p q _).mono ?_
      rintro e w7 ⟨rfl, b7⟩
      have B7 := hide ((unhide B6).trans (b7.mono (unhide B6).size))
      clear b7
      go_wp2_with fail
      refine (add12 q p _).mono ?_
      rintro e w8 ⟨rfl, b8⟩
      have B8 := hide ((unhide B7).trans (b8.mono (unhide B7).size))
      clear b8
      rw [add_comm q p]
      go_wp2_with fail
      refine (avg16 p p _).mono ?_
      rintro e w9 ⟨rfl, b9⟩
      have B9 := hide ((unhide B8).trans (b9.mono (unhide B8).size))
      clear b9
      rw [unhide E3]
      go_wp2
      go_ret
      exact ⟨rfl, unhide B9⟩

/-! ### THE ROW's STEP: WRITTEN OUT: LEAVE IT -/
set_option maxRecDepth 100000 in
theorem lifted (os : Os) (started : os.Started) (H : Type) (enc : TypeId × Value → H) :
    ReturnsInHanded {} Try.checked os 5 .any (Rows.pixelLawsSpec.pre6 enc Try.prog Try.f5 Rows.pixelLawsRow.domain false) (Rows.pixelLawsSpec.post enc Try.prog Try.f5 false true false false) := by
  refine returnsInHanded_of_change (C := Try.checked) own started (by kernel_rfl) Try.func5
    (ChangeSpec.witness6 (enc := enc) (C := Try.checked) false ⟨#[], #[.int .u32 0, .int .u32 0], []⟩ 8 (by kernel_rfl) (by kernel_rfl) (by kernel_rfl) (by kernel_rfl)) ?_
  intro W base args ds gs before hval0 hW hcnd _
  have hval : ∀ (j : Nat) t v, Try.f5.params[j]? = some t → args[j]? = some v → Value.okWide Try.prog W .any base t v := hval0
  have hW' := hW
  obtain ⟨p, q, hA0, hV, rfl, hfz, hnd⟩ := hW
  have hA : DataW.TrodAll enc Try.prog W 0 (fun _ => true) true Try.f5.params.toList args.toList ds p := hA0
  rw [Try.params5] at hA hval
  obtain ⟨v0, vs0, d0, ds0, p0, q0, hargs, rfl, rfl, h0, r0⟩ := trodAll_cons hA
  obtain ⟨v1, vs1, d1, ds1, p1, q1, rfl, rfl, rfl, h1, r1⟩ := trodAll_cons r0
  obtain ⟨rfl, rfl, rfl⟩ := trodAll_nil r1
  obtain rfl : args = #[v0, v1] := by cases args; simp_all
  obtain ⟨rfl, rfl⟩ := trodVars_none hV
  obtain ⟨a0, rfl, rfl, rfl, w0⟩ := open_int Try.underlying22 (hval 0 22 v0 rfl rfl) h0
  obtain ⟨a1, rfl, rfl, rfl, w1⟩ := open_int Try.underlying22 (hval 1 22 v1 rfl rfl) h1
  clear hA0 hval0
  refine (walk a0 a1 w0 w1 W).mono fun e W' ⟨he, bel⟩ => ?_
  subst he
  exact ⟨_, rfl, _, _, _, [], _, [], hW', trodAll_mk1 (shut_bool Try.underlying4 _), (trodAll_cons_mk (shut_int Try.underlying22 w0) (trodAll_cons_mk (shut_int Try.underlying22 w1) trodAll_mk0)), rfl, bel.frame _, fun h => by cases h⟩

theorem over : Rows.pixelLawsRow.holds Try.pinned (OpenSpec.ofChange Rows.pixelLawsSpec) :=
  OpenClaim.holds_of_wide 5 Try.f5 rfl rfl rfl rfl rfl rfl rfl ⟨rfl, rfl, rfl, rfl, rfl⟩ rfl rfl rfl rfl rfl (by kernel_rfl) Try.func5 (by kernel_rfl)
    (of_decide_eq_true (by kernel_rfl)) (by unfold Func.isWrapper; first | (rw [if_pos (by decide +kernel)]; kernel_rfl) | (rw [if_neg (by decide +kernel)]; exact ⟨rfl, rfl⟩))
    (fun os started H enc _ => lifted os started H enc)

/-- ████ THE STATEMENT ████ -/
theorem proved : Rows.PixelLawsSaid :=
  over
#print axioms proved
end Go.Proofs.Ytfgegjdhimkenaa.pixelLaws
