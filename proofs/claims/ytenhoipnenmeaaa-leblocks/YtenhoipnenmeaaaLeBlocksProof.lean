/-
  What is proved: for every n and bits the Go function LeBlocks of the statements of layer 1 returns true, and its arguments read as before.
  Conditions: none.
-/
import Derived.Test.YtenhoipnenmeaaaRows
import Derived.Test.YtenhoipnenmeaaaAns
import Derived.WalkKit
import Derived.ProofKit
import Derived.OpenShut
import Derived.ShutString
namespace Go.Proofs.Ytenhoipnenmeaaa.leBlocks
open Go.ChangeShapes Go.WideShapes Go.ChangeAt Go.RowKit
open Go.Proofs.Ytenhoipnenmeaaa.Prod Go.Proofs.Ytenhoipnenmeaaa.Blk Go.Proofs.Ytenhoipnenmeaaa.Get Go.Proofs.Ytenhoipnenmeaaa.Ans
open Go.ChangeMaps (open_string shut_string)
set_option linter.unusedVariables false      -- a walk need not use every 'w<i>' (that an integer argument fits its kind)

theorem own : ownKnob Try.prog.godebug = none := by kernel_rfl

theorem blk_facts (n : Int) (j : Nat) (m : Int) (h0 : 1 ≤ n) (h1 : n ≤ 16777216) (h2 : j ≤ 30) (h : blkV n j = m) :
    n ≤ m * 2 ^ j ∧ (m - 1) * 2 ^ j < n ∧ m * 2 ^ j ≤ 2000000000 ∧ 0 ≤ (m - 1) * 2 ^ j ∧ 1 ≤ m ∧ m ≤ 16777216 := by
  obtain ⟨p1, p2⟩ := pow_bd j h2
  rw [blk_in n j (by omega) h1 h2] at h
  generalize (2 : Int) ^ j = s at *
  have e := Int.mul_ediv_add_emod (n + s - 1) s
  have l := Int.emod_lt_of_pos (n + s - 1) (show 0 < s by omega)
  have g := Int.emod_nonneg (n + s - 1) (show s ≠ 0 by omega)
  rw [h, Int.mul_comm] at e
  have e2 : (m - 1) * s = m * s - s := by rw [Int.sub_mul]; omega
  have m1 : 1 ≤ m := by rw [← h]; exact (Int.le_ediv_iff_mul_le (by omega)).2 (by omega)
  have m2 : m ≤ m * s := by have := Int.mul_le_mul_of_nonneg_left p1 (show 0 ≤ m by omega); omega
  have m3 : m ≤ n := by
    rw [← h]; refine Int.le_of_lt_add_one ((Int.ediv_lt_iff_lt_mul (by omega)).2 ?_)
    have := Int.mul_le_mul_of_nonneg_left p1 (show 0 ≤ n by omega)
    rw [Int.add_mul]; omega
  have m4 : 0 ≤ (m - 1) * s := Int.mul_nonneg (by omega) (by omega)
  exact ⟨by omega, by omega, by omega, m4, m1, by omega⟩

/-! ### STEP 1: THE WALK: the Go text returns true. 'Grown w w'': the world has at most new blocks (Derived/RowKit3.lean). Part the cases AHEAD of 'go_enter' where a test parts the walk; take each callee by a contract of your own. -/
theorem walk (a0 : Int) (a1 : Int) (w0 : (Lit.int .u32 a0).wf = true) (w1 : (Lit.int .u8 a1).wf = true) (w : World) :
    Calls Try.prog 5 #[.int .u32 a0, .int .u8 a1] w fun e w' => e = .returned (.bool true) ∧ Grown w w' := by
  have b0 := bounds_u32 w0
  have b1 := bounds_u8 w1
  clear w0 w1
  obtain ⟨x1, x2⟩ := b0
  obtain ⟨y1, y2⟩ := b1
  obtain ⟨j, hj⟩ := Int.eq_ofNat_of_zero_le (show 0 ≤ a1 % 31 by omega)
  have hj30 : j ≤ 30 := by omega
  obtain ⟨p1, p2⟩ := pow_bd j hj30
  go_enter Try.func5, Try.ntmps5
  go_wp2_with fail
  refine (blk16 _ _ _).mono ?_
  rintro e w' ⟨rfl, rfl⟩
  obtain ⟨m, hm⟩ : ∃ m, blkV (a0 % 16777216 + 1) (j : Int) = m := ⟨_, rfl⟩
  rw [hm]
  obtain ⟨q1, q2, q3, q4, q5, q6⟩ := blk_facts (a0 % 16777216 + 1) j m (by omega) (by omega) hj30 hm
  clear hm
  go_wp2_with fail
  refine (ans8 _).mono ?_
  rintro e w' ⟨rfl, rfl⟩
  go_wp2
  all_goals go_ret
  all_goals exact ⟨rfl, by repeat (first | exact Grown.refl _ | apply Grown.drew | apply Grown.alloc)⟩

/-! ### THE ROW's STEP: WRITTEN OUT: LEAVE IT -/
set_option maxRecDepth 100000 in
theorem lifted (os : Os) (started : os.Started) (H : Type) (enc : TypeId × Value → H) :
    ReturnsInHanded {} Try.checked os 5 .any (Rows.leBlocksSpec.pre6 enc Try.prog Try.f5 Rows.leBlocksRow.domain false) (Rows.leBlocksSpec.post enc Try.prog Try.f5 false true false false) := by
  refine returnsInHanded_of_change (C := Try.checked) own started (by kernel_rfl) Try.func5
    (ChangeSpec.witness6 (enc := enc) (C := Try.checked) false ⟨#[], #[.int .u32 0, .int .u8 0], []⟩ 8 (by kernel_rfl) (by kernel_rfl) (by kernel_rfl) (by kernel_rfl)) ?_
  intro W base args ds gs before hval0 hW hcnd _
  have hval : ∀ (j : Nat) t v, Try.f5.params[j]? = some t → args[j]? = some v → Value.okWide Try.prog W .any base t v := hval0
  have hW' := hW
  obtain ⟨p, q, hA0, hV, rfl, hfz, hnd⟩ := hW
  have hA : DataW.TrodAll enc Try.prog W 0 (fun _ => true) true Try.f5.params.toList args.toList ds p := hA0
  rw [Try.params5] at hA hval
  obtain ⟨v0, vs0, d0, ds0, p0, q0, hargs, rfl, rfl, h0, r0⟩ := trodAll_cons hA
  obtain ⟨v1, vs1, d1, ds1, p1, q1, rfl, rfl, rfl, h1, r1⟩ := trodAll_cons r0
  obtain ⟨rfl, rfl, rfl⟩ := trodAll_nil r1
  obtain rfl : args = #[v0, v1] := by cases args; simp_all
  obtain ⟨rfl, rfl⟩ := trodVars_none hV
  obtain ⟨a0, rfl, rfl, rfl, w0⟩ := open_int Try.underlying35 (hval 0 35 v0 rfl rfl) h0
  obtain ⟨a1, rfl, rfl, rfl, w1⟩ := open_int Try.underlying5 (hval 1 5 v1 rfl rfl) h1
  clear hA0 hval0
  simp only [List.append_nil] at hW'
  refine (walk a0 a1 w0 w1 W).mono fun e W' ⟨he, hg⟩ => ?_
  subst he
  exact ⟨_, rfl, post_of_same (pa := []) (pv := []) hW' (fun _ _ _ => (trodAll_cons_mk (shut_bool Try.underlying4 _) trodAll_mk0)) (fun sp _ => (trodAll_cons_mk (shut_int Try.underlying35 w0) (trodAll_cons_mk (shut_int Try.underlying5 w1) trodAll_mk0))) (fun _ _ => rfl) rfl
    (hg.frame _) hg.2.1 (ok_one (by kernel_rfl) rfl (okWide_bool_mk Try.underlying4 _))⟩

theorem over : Rows.leBlocksRow.holds Try.pinned (OpenSpec.ofChange Rows.leBlocksSpec) :=
  OpenClaim.holds_of_wide 5 Try.f5 rfl rfl rfl rfl rfl rfl rfl ⟨rfl, rfl, rfl, rfl, rfl⟩ rfl rfl rfl rfl rfl (by kernel_rfl) Try.func5 (by kernel_rfl)
    (of_decide_eq_true (by kernel_rfl)) (by unfold Func.isWrapper; first | (rw [if_pos (by decide +kernel)]; kernel_rfl) | (rw [if_neg (by decide +kernel)]; exact ⟨rfl, rfl⟩))
    (fun os started H enc _ => lifted os started H enc)

/-- ████ THE STATEMENT ████ -/
theorem proved : Rows.LeBlocksSaid :=
  over
#print axioms proved
end Go.Proofs.Ytenhoipnenmeaaa.leBlocks
