/-
  What is proved: for every mode and pixel the Go function GuessFlat of the statements of layer 12 returns true, and its arguments read as before.
  Conditions: none.
-/
import Derived.Test.YtncpoahnhgnokaaRows
import Derived.Test.YtncpoahnhgnokaaGGue
import Derived.WalkKit
import Derived.ProofKit
import Derived.OpenShut
import Derived.ShutString
import Derived.ChangeOld
import Derived.Below
namespace Go.Proofs.Ytncpoahnhgnokaa.guessFlat
open Go.ChangeShapes Go.WideShapes Go.ChangeAt Go.RowKit
open Go.Proofs.Ytncpoahnhgnokaa.Core Go.Proofs.Ytncpoahnhgnokaa.PNum Go.Proofs.Ytncpoahnhgnokaa.PPrt Go.Proofs.Ytncpoahnhgnokaa.PFun Go.Proofs.Ytncpoahnhgnokaa.GGue
open Go.ChangeMaps (open_string shut_string)
set_option linter.unusedVariables false      -- a walk need not use every 'w<i>' (that an integer argument fits its kind)

theorem own : ownKnob Try.prog.godebug = none := by kernel_rfl

theorem cut_nat {n : Nat} (h : n < 256) : cutV (n : Int) = n := by have := cutV_in (z := n) (by omega) (by omega); omega
theorem full_self {p : Nat} (hp : p < 4294967296) : fullV p p p = p := mk_is hp fun k _ => by
  unfold fullF; rw [Int.add_sub_cancel]; exact cut_nat (pt_lt p k)
theorem half_self {p : Nat} (hp : p < 4294967296) : halfV p p = p := mk_is hp fun k _ => by
  unfold halfF; rw [Int.sub_self, Int.zero_tdiv, Int.add_zero]; exact cut_nat (pt_lt p k)
theorem pick_self (p u : Nat) : pickV p p u = p := by unfold pickV; split <;> rfl
theorem gs_self {m : Int} {p : Nat} (hp : p < 4294967296) (h0 : 1 ≤ m) (h1 : m ≤ 13) : gsV m p p p p = p := by
  rcases gs_in h0 h1 with rfl | rfl | rfl | rfl | rfl | rfl | rfl | rfl | rfl | rfl | rfl | rfl | rfl
  · exact gs_1 _ _ _ _
  · exact gs_2 _ _ _ _
  · exact gs_3 _ _ _ _
  · exact gs_4 _ _ _ _
  · rw [gs_5, avg_self hp, avg_self hp]
  · rw [gs_6, avg_self hp]
  · rw [gs_7, avg_self hp]
  · rw [gs_8, avg_self hp]
  · rw [gs_9, avg_self hp]
  · rw [gs_10, avg_self hp, avg_self hp]
  · rw [gs_11, pick_self]
  · rw [gs_12, full_self hp]
  · rw [gs_13, avg_self hp, half_self hp]
set_option maxRecDepth 20000 in
set_option maxHeartbeats 1000000 in
theorem walk (a0 : Int) (a1 : Int) (w0 : (Lit.int .u8 a0).wf = true) (w1 : (Lit.int .u32 a1).wf = true) (w : World) :
    Calls Try.prog 6 #[.int .u8 a0, .int .u32 a1] w fun e w' => e = .returned (.bool true) ∧ Below w.heap.size w w' := by
  have b0 := bounds_u8 w0
  have b1 := bounds_u32 w1
  clear w0 w1
  obtain ⟨p, rfl⟩ := Int.eq_ofNat_of_zero_le b1.1
  obtain ⟨q, rfl⟩ := Int.eq_ofNat_of_zero_le b0.1
  have hq : q < 256 := by omega
  have hp : Hid (p < 4294967296) := by unfold Hid; omega
  clear b0 b1
  by_cases h0 : q % 14 = 0
  · have e0 : ((q : Int)).tmod 14 = 0 := by rw [Int.tmod_eq_emod_of_nonneg (by omega)]; omega
    clear h0
    go_enter Try.func6, Try.ntmps6
    go_wp2_with fail
    refine (ans7 _).mono ?_
    rintro e w1 ⟨rfl, b1⟩
    have B1 := hide b1
    clear b1
    go_wp2_with fail
    refine (guess8 0 p p p p _).mono ?_
    rintro e w2 ⟨rfl, b2⟩
    have B2 := hide ((unhide B1).trans (b2.mono (unhide B1).size))
    clear b2
    rw [gs_no p p p p (by omega)]
    go_wp2
    go_ret
    exact ⟨rfl, unhide B2⟩
  · obtain ⟨m, e0, hm⟩ : ∃ m : Nat, ((q : Int)).tmod 14 = (m : Int) ∧ 1 ≤ m ∧ m ≤ 13 := ⟨q % 14, by rw [Int.tmod_eq_emod_of_nonneg (by omega)]; omega, by omega, by omega⟩
    have hm' : ¬ m = 0 := by omega
    have HG := hide (gs_self (m := m) (unhide hp) (by omega) (by omega))
    have hm1 := hm.1
    have hm2 := hm.2
    clear h0 hm
    go_enter Try.func6, Try.ntmps6
    go_wp2_with fail
    refine (ans7 _).mono ?_
    rintro e w1 ⟨rfl, b1⟩
    have B1 := hide b1
    clear b1
    go_wp2_with fail
    refine (guess8 m p p p p _).mono ?_
    rintro e w2 ⟨rfl, b2⟩
    have B2 := hide ((unhide B1).trans (b2.mono (unhide B1).size))
    clear b2
    rw [unhide HG]
    go_wp2_with fail
    refine (guess8 14 p p p p _).mono ?_
    rintro e w3 ⟨rfl, b3⟩
    have B3 := hide ((unhide B2).trans (b3.mono (unhide B2).size))
    clear b3
    rw [gs_no p p p p (by omega)]
    go_wp2
    go_ret
    exact ⟨rfl, unhide B3⟩

/-! ### THE ROW's STEP: WRITTEN OUT: LEAVE IT -/
set_option maxRecDepth 100000 in
theorem lifted (os : Os) (started : os.Started) (H : Type) (enc : TypeId × Value → H) :
    ReturnsInHanded {} Try.checked os 6 .any (Rows.guessFlatSpec.pre6 enc Try.prog Try.f6 Rows.guessFlatRow.domain false) (Rows.guessFlatSpec.post enc Try.prog Try.f6 false true false false) := by
  refine returnsInHanded_of_change (C := Try.checked) own started (by kernel_rfl) Try.func6
    (ChangeSpec.witness6 (enc := enc) (C := Try.checked) false ⟨#[], #[.int .u8 0, .int .u32 0], []⟩ 8 (by kernel_rfl) (by kernel_rfl) (by kernel_rfl) (by kernel_rfl)) ?_
  intro W base args ds gs before hval0 hW hcnd _
  have hval : ∀ (j : Nat) t v, Try.f6.params[j]? = some t → args[j]? = some v → Value.okWide Try.prog W .any base t v := hval0
  have hW' := hW
  obtain ⟨p, q, hA0, hV, rfl, hfz, hnd⟩ := hW
  have hA : DataW.TrodAll enc Try.prog W 0 (fun _ => true) true Try.f6.params.toList args.toList ds p := hA0
  rw [Try.params6] at hA hval
  obtain ⟨v0, vs0, d0, ds0, p0, q0, hargs, rfl, rfl, h0, r0⟩ := trodAll_cons hA
  obtain ⟨v1, vs1, d1, ds1, p1, q1, rfl, rfl, rfl, h1, r1⟩ := trodAll_cons r0
  obtain ⟨rfl, rfl, rfl⟩ := trodAll_nil r1
  obtain rfl : args = #[v0, v1] := by cases args; simp_all
  obtain ⟨rfl, rfl⟩ := trodVars_none hV
  obtain ⟨a0, rfl, rfl, rfl, w0⟩ := open_int Try.underlying5 (hval 0 5 v0 rfl rfl) h0
  obtain ⟨a1, rfl, rfl, rfl, w1⟩ := open_int Try.underlying22 (hval 1 22 v1 rfl rfl) h1
  clear hA0 hval0
  refine (walk a0 a1 w0 w1 W).mono fun e W' ⟨he, bel⟩ => ?_
  subst he
  exact ⟨_, rfl, _, _, _, [], _, [], hW', trodAll_mk1 (shut_bool Try.underlying4 _), (trodAll_cons_mk (shut_int Try.underlying5 w0) (trodAll_cons_mk (shut_int Try.underlying22 w1) trodAll_mk0)), rfl, bel.frame _, fun h => by cases h⟩

theorem over : Rows.guessFlatRow.holds Try.pinned (OpenSpec.ofChange Rows.guessFlatSpec) :=
  OpenClaim.holds_of_wide 6 Try.f6 rfl rfl rfl rfl rfl rfl rfl ⟨rfl, rfl, rfl, rfl, rfl⟩ rfl rfl rfl rfl rfl (by kernel_rfl) Try.func6 (by kernel_rfl)
    (of_decide_eq_true (by kernel_rfl)) (by unfold Func.isWrapper; first | (rw [if_pos (by decide +kernel)]; kernel_rfl) | (rw [if_neg (by decide +kernel)]; exact ⟨rfl, rfl⟩))
    (fun os started H enc _ => lifted os started H enc)

/-- ████ THE STATEMENT ████ -/
theorem proved : Rows.GuessFlatSaid :=
  over
#print axioms proved
end Go.Proofs.Ytncpoahnhgnokaa.guessFlat
