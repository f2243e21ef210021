/-
  What is proved: for every symbol the Go function ValueNext of the statements of layer 8 returns true, and its argument reads as before.
  Conditions: none.
-/
import Derived.Test.YtcmamkoapeadnaaRows
import Derived.Test.YtcmamkoapeadnaaSpt
import Derived.WalkKit
import Derived.ProofKit
import Derived.OpenShut
import Derived.ShutString
import Derived.ChangeOld
import Derived.Below
namespace Go.Proofs.Ytcmamkoapeadnaa.valueNext
open Go.ChangeShapes Go.WideShapes Go.ChangeAt Go.RowKit
open Go.Proofs.Ytcmamkoapeadnaa.Core Go.Proofs.Ytcmamkoapeadnaa.Num Go.Proofs.Ytcmamkoapeadnaa.Val Go.Proofs.Ytcmamkoapeadnaa.Joi Go.Proofs.Ytcmamkoapeadnaa.Spt
open Go.ChangeMaps (open_string shut_string)
set_option linter.unusedVariables false      -- a walk need not use every 'w<i>' (that an integer argument fits its kind)

theorem own : ownKnob Try.prog.godebug = none := by kernel_rfl


set_option maxRecDepth 20000 in
set_option maxHeartbeats 1000000 in
theorem walk (a0 : Int) (w0 : (Lit.int .u8 a0).wf = true) (w : World) :
    Calls Try.prog 6 #[.int .u8 a0] w fun e w' => e = .returned (.bool true) ∧ Below w.heap.size w w' := by
  have b0 := bounds_u8 w0
  clear w0
  obtain ⟨x0, x1⟩ := b0
  obtain ⟨s, hs⟩ := Int.eq_ofNat_of_zero_le (show 0 ≤ a0 % 39 by omega)
  have s38 : s < 39 := by omega
  obtain ⟨l, hl⟩ : ∃ l, frs (s + 1) = l + 1 := ⟨frs (s + 1) - 1, by have := frs_pos (s + 1); omega⟩
  have l1 : (l : Int) ≤ 1048576 := by have b := Nat.le_trans (Nat.le_add_right _ _) (frs_le (s + 1) (by omega)); omega
  have E := hide (exV_nat s (by omega))
  have J1 := hide (join_last s l s38 hl)
  have J2 := hide (join_first s l s38 hl)
  have J3 := hide (join_over s)
  have SP := hide (fun w => split_next s l w s38 hl)
  have k18 := exn_le s (by omega)
  have pI := pow_exnI s (by omega)
  have s38' : (s : Int) < 39 := by omega
  clear hl
  generalize exn s = k at *
  generalize exn (s + 1) = k2 at *
  go_enter Try.func6, Try.ntmps6
  go_wp2_with fail
  refine (ext8 _ _).mono ?_
  rintro e w' ⟨rfl, rfl⟩
  rw [unhide E]
  go_wp2_with fail
  refine (join10 _ _ _ (by omega)).mono ?_
  rintro e w' ⟨rfl, rfl⟩
  rw [unhide J1]
  go_wp2_with fail
  refine (unhide SP _).mono ?_
  rintro e w' ⟨rfl, m1, rfl⟩
  go_wp2_with fail
  refine (ans7 _).mono ?_
  rintro e w' ⟨rfl, m2, rfl⟩
  go_wp2_with fail
  refine (join10 _ _ _ (by omega)).mono ?_
  rintro e w' ⟨rfl, rfl⟩
  rw [unhide J2]
  go_wp2_with fail
  refine (join10 _ _ _ (by omega)).mono ?_
  rintro e w' ⟨rfl, rfl⟩
  rw [unhide J3]
  go_wp2
  go_ret
  exact ⟨rfl, below_drew (Below.refl _ _) _⟩

/-! ### THE ROW's STEP: WRITTEN OUT: LEAVE IT -/
set_option maxRecDepth 100000 in
theorem lifted (os : Os) (started : os.Started) (H : Type) (enc : TypeId × Value → H) :
    ReturnsInHanded {} Try.checked os 6 .any (Rows.valueNextSpec.pre6 enc Try.prog Try.f6 Rows.valueNextRow.domain false) (Rows.valueNextSpec.post enc Try.prog Try.f6 false true false false) := by
  refine returnsInHanded_of_change (C := Try.checked) own started (by kernel_rfl) Try.func6
    (ChangeSpec.witness6 (enc := enc) (C := Try.checked) false ⟨#[], #[.int .u8 0], []⟩ 8 (by kernel_rfl) (by kernel_rfl) (by kernel_rfl) (by kernel_rfl)) ?_
  intro W base args ds gs before hval0 hW hcnd _
  have hval : ∀ (j : Nat) t v, Try.f6.params[j]? = some t → args[j]? = some v → Value.okWide Try.prog W .any base t v := hval0
  have hW' := hW
  obtain ⟨p, q, hA0, hV, rfl, hfz, hnd⟩ := hW
  have hA : DataW.TrodAll enc Try.prog W 0 (fun _ => true) true Try.f6.params.toList args.toList ds p := hA0
  rw [Try.params6] at hA hval
  obtain ⟨v0, vs0, d0, ds0, p0, q0, hargs, rfl, rfl, h0, r0⟩ := trodAll_cons hA
  obtain ⟨rfl, rfl, rfl⟩ := trodAll_nil r0
  obtain rfl : args = #[v0] := by cases args; simp_all
  obtain ⟨rfl, rfl⟩ := trodVars_none hV
  obtain ⟨a0, rfl, rfl, rfl, w0⟩ := open_int Try.underlying5 (hval 0 5 v0 rfl rfl) h0
  clear hA0 hval0
  refine (walk a0 w0 W).mono fun e W' ⟨he, bel⟩ => ?_
  subst he
  exact ⟨_, rfl, _, _, _, [], _, [], hW', trodAll_mk1 (shut_bool Try.underlying4 _), (trodAll_cons_mk (shut_int Try.underlying5 w0) trodAll_mk0), rfl, bel.frame _, fun h => by cases h⟩

theorem over : Rows.valueNextRow.holds Try.pinned (OpenSpec.ofChange Rows.valueNextSpec) :=
  OpenClaim.holds_of_wide 6 Try.f6 rfl rfl rfl rfl rfl rfl rfl ⟨rfl, rfl, rfl, rfl, rfl⟩ rfl rfl rfl rfl rfl (by kernel_rfl) Try.func6 (by kernel_rfl)
    (of_decide_eq_true (by kernel_rfl)) (by unfold Func.isWrapper; first | (rw [if_pos (by decide +kernel)]; kernel_rfl) | (rw [if_neg (by decide +kernel)]; exact ⟨rfl, rfl⟩))
    (fun os started H enc _ => lifted os started H enc)

/-- ████ THE STATEMENT ████ -/
theorem proved : Rows.ValueNextSaid :=
  over
#print axioms proved
end Go.Proofs.Ytcmamkoapeadnaa.valueNext
