/-
  What is proved: for every colour and number of bits the Go function CacheSlots of the statements of layer 10 returns true, and its arguments read as before.
  Conditions: none.
-/
import Derived.Test.YtadikcjafjkhnaaRows
import Derived.Test.YtadikcjafjkhnaaCac
import Derived.WalkKit
import Derived.ProofKit
import Derived.OpenShut
import Derived.ShutString
import Derived.ChangeOld
import Derived.Below
namespace Go.Proofs.Ytadikcjafjkhnaa.cacheSlots
open Go.ChangeShapes Go.WideShapes Go.ChangeAt Go.RowKit
open Go.Proofs.Ytadikcjafjkhnaa.Core Go.Proofs.Ytadikcjafjkhnaa.Num Go.Proofs.Ytadikcjafjkhnaa.Slo Go.Proofs.Ytadikcjafjkhnaa.Cac
open Go.ChangeMaps (open_string shut_string)
set_option linter.unusedVariables false      -- a walk need not use every 'w<i>' (that an integer argument fits its kind)

theorem own : ownKnob Try.prog.godebug = none := by kernel_rfl

set_option maxRecDepth 20000 in
set_option maxHeartbeats 1000000 in
theorem walk (a0 : Int) (a1 : Int) (w0 : (Lit.int .u32 a0).wf = true) (w1 : (Lit.int .i64 a1).wf = true) (w : World) :
    Calls Try.prog 4 #[.int .u32 a0, .int .i64 a1] w fun e w' => e = .returned (.bool true) ∧ Below w.heap.size w w' := by
  have b0 := bounds_u32 w0
  have b1 := bounds_i64 w1
  clear w0 w1
  obtain ⟨a, rfl⟩ := Int.eq_ofNat_of_zero_le b0.1
  by_cases h : a1 < 1 ∨ 10 < a1
  · have HB := hide b0.2
    clear b0 b1
    rcases h with h | h
    · go_enter Try.func4, Try.ntmps4
      go_wp2_with fail
      refine (slot13 _ _ _).mono ?_
      rintro e w' ⟨rfl, rfl⟩
      go_wp2_with fail
      refine (ans8 _).mono ?_
      rintro e w' ⟨rfl, bel⟩
      have BB := hide bel
      clear bel
      go_wp2_with fail
      refine (rslot10 _ _ _ (by have := unhide HB; omega)).mono ?_
      rintro e w' ⟨rfl, rfl⟩
      generalize slV a a1 = k
      go_wp2
      go_ret
      exact ⟨rfl, unhide BB⟩
    · have h' : 1 ≤ a1 := by omega
      go_enter Try.func4, Try.ntmps4
      go_wp2_with fail
      refine (slot13 _ _ _).mono ?_
      rintro e w' ⟨rfl, rfl⟩
      go_wp2_with fail
      refine (ans8 _).mono ?_
      rintro e w' ⟨rfl, bel⟩
      have BB := hide bel
      clear bel
      go_wp2_with fail
      refine (rslot10 _ _ _ (by have := unhide HB; omega)).mono ?_
      rintro e w' ⟨rfl, rfl⟩
      generalize slV a a1 = k
      go_wp2
      go_ret
      exact ⟨rfl, unhide BB⟩
  · obtain ⟨b, rfl⟩ := Int.eq_ofNat_of_zero_le (show 0 ≤ a1 by omega)
    have HB := hide b0.2
    have B1 := hide (show 1 ≤ b ∧ b ≤ 10 by omega)
    have h0' : 1 ≤ (b : Int) := by omega
    have h1' : (b : Int) ≤ 10 := by omega
    have hlt := sl_lt a b (by omega)
    have hp := pow_le b (by omega)
    have hc := (pow_cast b).symm
    have hx := sl_next a b (by omega)
    have hx1 := sl_lt32 a (b + 1) (by omega)
    clear b0 b1 h
    go_enter Try.func4, Try.ntmps4
    go_wp2_with fail
    refine (slot13_in _ _ _ (unhide B1).1 (by have := unhide B1; omega)).mono ?_
    rintro e w' ⟨rfl, rfl⟩
    go_wp2_with fail
    refine (ans8 _).mono ?_
    rintro e w' ⟨rfl, bel⟩
    have BB := hide bel
    clear bel
    go_wp2_with fail
    refine (rslot10_in _ _ _ (by have := unhide HB; omega) (unhide B1).1 (by have := unhide B1; omega)).mono ?_
    rintro e w' ⟨rfl, rfl⟩
    generalize h2b : 2 ^ b = n at *
    generalize hs : sl a b = s at *
    have HS := hide hs
    clear h2b hs
    have hx' : ((sl a (b + 1) : Nat) : Int) / 2 = (s : Int) := by omega
    have hl' : (s : Int) < n := by omega
    have hx2 : ((sl a (b + 1) : Nat) : Int) < 2048 := by omega
    clear hx hx1 hlt
    go_wp2_with fail
    refine (slot13_in _ (b + 1) _ (by omega) (by have := unhide B1; omega)).mono ?_
    rintro e w' ⟨rfl, rfl⟩
    generalize sl a (b + 1) = t at *
    go_wp2
    go_ret
    exact ⟨rfl, unhide BB⟩

/-! ### THE ROW's STEP: WRITTEN OUT: LEAVE IT -/
set_option maxRecDepth 100000 in
theorem lifted (os : Os) (started : os.Started) (H : Type) (enc : TypeId × Value → H) :
    ReturnsInHanded {} Try.checked os 4 .any (Rows.cacheSlotsSpec.pre6 enc Try.prog Try.f4 Rows.cacheSlotsRow.domain false) (Rows.cacheSlotsSpec.post enc Try.prog Try.f4 false true false false) := by
  refine returnsInHanded_of_change (C := Try.checked) own started (by kernel_rfl) Try.func4
    (ChangeSpec.witness6 (enc := enc) (C := Try.checked) false ⟨#[], #[.int .u32 0, .int .i64 0], []⟩ 8 (by kernel_rfl) (by kernel_rfl) (by kernel_rfl) (by kernel_rfl)) ?_
  intro W base args ds gs before hval0 hW hcnd _
  have hval : ∀ (j : Nat) t v, Try.f4.params[j]? = some t → args[j]? = some v → Value.okWide Try.prog W .any base t v := hval0
  have hW' := hW
  obtain ⟨p, q, hA0, hV, rfl, hfz, hnd⟩ := hW
  have hA : DataW.TrodAll enc Try.prog W 0 (fun _ => true) true Try.f4.params.toList args.toList ds p := hA0
  rw [Try.params4] at hA hval
  obtain ⟨v0, vs0, d0, ds0, p0, q0, hargs, rfl, rfl, h0, r0⟩ := trodAll_cons hA
  obtain ⟨v1, vs1, d1, ds1, p1, q1, rfl, rfl, rfl, h1, r1⟩ := trodAll_cons r0
  obtain ⟨rfl, rfl, rfl⟩ := trodAll_nil r1
  obtain rfl : args = #[v0, v1] := by cases args; simp_all
  obtain ⟨rfl, rfl⟩ := trodVars_none hV
  obtain ⟨a0, rfl, rfl, rfl, w0⟩ := open_int Try.underlying32 (hval 0 32 v0 rfl rfl) h0
  obtain ⟨a1, rfl, rfl, rfl, w1⟩ := open_int Try.underlying3 (hval 1 3 v1 rfl rfl) h1
  clear hA0 hval0
  refine (walk a0 a1 w0 w1 W).mono fun e W' ⟨he, bel⟩ => ?_
  subst he
  exact ⟨_, rfl, _, _, _, [], _, [], hW', trodAll_mk1 (shut_bool Try.underlying4 _), (trodAll_cons_mk (shut_int Try.underlying32 w0) (trodAll_cons_mk (shut_int Try.underlying3 w1) trodAll_mk0)), rfl, bel.frame _, fun h => by cases h⟩

theorem over : Rows.cacheSlotsRow.holds Try.pinned (OpenSpec.ofChange Rows.cacheSlotsSpec) :=
  OpenClaim.holds_of_wide 4 Try.f4 rfl rfl rfl rfl rfl rfl rfl ⟨rfl, rfl, rfl, rfl, rfl⟩ rfl rfl rfl rfl rfl (by kernel_rfl) Try.func4 (by kernel_rfl)
    (of_decide_eq_true (by kernel_rfl)) (by unfold Func.isWrapper; first | (rw [if_pos (by decide +kernel)]; kernel_rfl) | (rw [if_neg (by decide +kernel)]; exact ⟨rfl, rfl⟩))
    (fun os started H enc _ => lifted os started H enc)

/-- ████ THE STATEMENT ████ -/
theorem proved : Rows.CacheSlotsSaid :=
  over
#print axioms proved
end Go.Proofs.Ytadikcjafjkhnaa.cacheSlots
