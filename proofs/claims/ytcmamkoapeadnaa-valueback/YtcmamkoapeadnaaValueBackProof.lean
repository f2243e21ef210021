/-
  What is proved: for every n the Go function ValueBack of the statements of layer 8 returns true, and its argument reads as before.
  Conditions: none.
-/
import Derived.Test.YtcmamkoapeadnaaRows
import Derived.Test.YtcmamkoapeadnaaSpt
import Derived.WalkKit
import Derived.ProofKit
import Derived.OpenShut
import Derived.ShutString
import Derived.ChangeOld
import Derived.Below
namespace Go.Proofs.Ytcmamkoapeadnaa.valueBack
open Go.ChangeShapes Go.WideShapes Go.ChangeAt Go.RowKit
open Go.Proofs.Ytcmamkoapeadnaa.Core Go.Proofs.Ytcmamkoapeadnaa.Num Go.Proofs.Ytcmamkoapeadnaa.Val Go.Proofs.Ytcmamkoapeadnaa.Joi Go.Proofs.Ytcmamkoapeadnaa.Spt
open Go.ChangeMaps (open_string shut_string)
set_option linter.unusedVariables false      -- a walk need not use every 'w<i>' (that an integer argument fits its kind)

theorem own : ownKnob Try.prog.godebug = none := by kernel_rfl


set_option maxRecDepth 20000 in
set_option maxHeartbeats 1000000 in
theorem walk_out (a0 : Int) (w : World) (h : a0 < 1 ∨ 1048576 < a0) :
    Calls Try.prog 4 #[.int .i64 a0] w fun e w' => e = .returned (.bool true) ∧ Below w.heap.size w w' := by
  have SP := hide (fun w => split_out a0 w h)
  rcases h with h | h
  · go_enter Try.func4, Try.ntmps4
    go_wp2_with fail
    refine (unhide SP _).mono ?_
    rintro e w' ⟨rfl, rfl⟩
    unfold told
    go_wp2_with fail
    refine (ans7 _).mono ?_
    rintro e w' ⟨rfl, m2, rfl⟩
    go_wp2
    go_ret
    exact ⟨rfl, below_drew (Below.refl _ _) m2⟩
  · have h' : 1 ≤ a0 := by omega
    go_enter Try.func4, Try.ntmps4
    go_wp2_with fail
    refine (unhide SP _).mono ?_
    rintro e w' ⟨rfl, rfl⟩
    unfold told
    go_wp2_with fail
    refine (ans7 _).mono ?_
    rintro e w' ⟨rfl, m2, rfl⟩
    go_wp2
    go_ret
    exact ⟨rfl, below_drew (Below.refl _ _) m2⟩
set_option maxRecDepth 20000 in
set_option maxHeartbeats 1000000 in
theorem walk_in (n : Nat) (w : World) (h0 : 1 ≤ n) (h1 : n ≤ 1048576) :
    Calls Try.prog 4 #[.int .i64 n] w fun e w' => e = .returned (.bool true) ∧ Below w.heap.size w w' := by
  have SP := hide (fun w => split12 n w h0 h1)
  have h0' : 1 ≤ (n : Int) := by omega
  have h1' : (n : Int) ≤ 1048576 := by omega
  go_enter Try.func4, Try.ntmps4
  go_wp2_with fail
  refine (unhide SP _).mono ?_
  rintro e w' ⟨s, x, i, rfl, m, rfl⟩
  have s40 := i.sym
  have E := hide (exV_nat s s40)
  have J := hide ((joV_in s x s40 i.low).trans (by rw [i.num]))
  have k18 := exn_le s s40
  have pI := pow_exnI s s40
  have lt : decide ((x : Int) < 2 ^ exn s) = true := by
    have := i.low
    have e : (2 : Int) ^ exn s = ((2 ^ exn s : Nat) : Int) := by simp
    rw [e]; exact decide_eq_true (by omega)
  have x2 := hide (show 0 ≤ (x : Int) ∧ (x : Int) ≤ 4294967295 by have := pow_exn s s40; have := i.low; omega)
  have wx : IntKind.u64.wrap (x : Int) = (x : Int) := by
    have := unhide x2
    simp [IntKind.wrap, IntKind.bits, IntKind.signed]; omega
  have s40' : (s : Int) < 40 := by omega
  clear i
  generalize exn s = k at *
  go_wp2_with fail
  refine (ans7 _).mono ?_
  rintro e w' ⟨rfl, m2, rfl⟩
  go_wp2_with fail
  refine (ext9 _ _).mono ?_
  rintro e w' ⟨rfl, rfl⟩
  rw [unhide E]
  go_wp2_with fail
  refine (ref11 _ _ _ (unhide x2).1 (unhide x2).2).mono ?_
  rintro e w' ⟨rfl, rfl⟩
  rw [unhide J]
  go_wp2
  go_ret
  exact ⟨rfl, below_drew (Below.refl _ _) _⟩

set_option maxRecDepth 20000 in
set_option maxHeartbeats 1000000 in
theorem walk (a0 : Int) (w0 : (Lit.int .i64 a0).wf = true) (w : World) :
    Calls Try.prog 4 #[.int .i64 a0] w fun e w' => e = .returned (.bool true) ∧ Below w.heap.size w w' := by
  by_cases h : a0 < 1 ∨ 1048576 < a0
  · exact walk_out a0 w h
  · obtain ⟨n, rfl⟩ := Int.eq_ofNat_of_zero_le (show 0 ≤ a0 by omega)
    exact walk_in n w (by omega) (by omega)

/-! ### THE ROW's STEP: WRITTEN OUT: LEAVE IT -/
set_option maxRecDepth 100000 in
theorem lifted (os : Os) (started : os.Started) (H : Type) (enc : TypeId × Value → H) :
    ReturnsInHanded {} Try.checked os 4 .any (Rows.valueBackSpec.pre6 enc Try.prog Try.f4 Rows.valueBackRow.domain false) (Rows.valueBackSpec.post enc Try.prog Try.f4 false true false false) := by
  refine returnsInHanded_of_change (C := Try.checked) own started (by kernel_rfl) Try.func4
    (ChangeSpec.witness6 (enc := enc) (C := Try.checked) false ⟨#[], #[.int .i64 0], []⟩ 8 (by kernel_rfl) (by kernel_rfl) (by kernel_rfl) (by kernel_rfl)) ?_
  intro W base args ds gs before hval0 hW hcnd _
  have hval : ∀ (j : Nat) t v, Try.f4.params[j]? = some t → args[j]? = some v → Value.okWide Try.prog W .any base t v := hval0
  have hW' := hW
  obtain ⟨p, q, hA0, hV, rfl, hfz, hnd⟩ := hW
  have hA : DataW.TrodAll enc Try.prog W 0 (fun _ => true) true Try.f4.params.toList args.toList ds p := hA0
  rw [Try.params4] at hA hval
  obtain ⟨v0, vs0, d0, ds0, p0, q0, hargs, rfl, rfl, h0, r0⟩ := trodAll_cons hA
  obtain ⟨rfl, rfl, rfl⟩ := trodAll_nil r0
  obtain rfl : args = #[v0] := by cases args; simp_all
  obtain ⟨rfl, rfl⟩ := trodVars_none hV
  obtain ⟨a0, rfl, rfl, rfl, w0⟩ := open_int Try.underlying3 (hval 0 3 v0 rfl rfl) h0
  clear hA0 hval0
  refine (walk a0 w0 W).mono fun e W' ⟨he, bel⟩ => ?_
  subst he
  exact ⟨_, rfl, _, _, _, [], _, [], hW', trodAll_mk1 (shut_bool Try.underlying4 _), (trodAll_cons_mk (shut_int Try.underlying3 w0) trodAll_mk0), rfl, bel.frame _, fun h => by cases h⟩

theorem over : Rows.valueBackRow.holds Try.pinned (OpenSpec.ofChange Rows.valueBackSpec) :=
  OpenClaim.holds_of_wide 4 Try.f4 rfl rfl rfl rfl rfl rfl rfl ⟨rfl, rfl, rfl, rfl, rfl⟩ rfl rfl rfl rfl rfl (by kernel_rfl) Try.func4 (by kernel_rfl)
    (of_decide_eq_true (by kernel_rfl)) (by unfold Func.isWrapper; first | (rw [if_pos (by decide +kernel)]; kernel_rfl) | (rw [if_neg (by decide +kernel)]; exact ⟨rfl, rfl⟩))
    (fun os started H enc _ => lifted os started H enc)

/-- ████ THE STATEMENT ████ -/
theorem proved : Rows.ValueBackSaid :=
  over
#print axioms proved
end Go.Proofs.Ytcmamkoapeadnaa.valueBack
