/-
  What is proved: for every a and b the Go function ValueOrder of the statements of layer 8 returns true, and its arguments read as before.
  Conditions: none.
-/
import Derived.Test.YtcmamkoapeadnaaRows
import Derived.Test.YtcmamkoapeadnaaSpt
import Derived.WalkKit
import Derived.ProofKit
import Derived.OpenShut
import Derived.ShutString
import Derived.ChangeOld
import Derived.Below
namespace Go.Proofs.Ytcmamkoapeadnaa.valueOrder
open Go.ChangeShapes Go.WideShapes Go.ChangeAt Go.RowKit
open Go.Proofs.Ytcmamkoapeadnaa.Core Go.Proofs.Ytcmamkoapeadnaa.Num Go.Proofs.Ytcmamkoapeadnaa.Val Go.Proofs.Ytcmamkoapeadnaa.Joi Go.Proofs.Ytcmamkoapeadnaa.Spt
open Go.ChangeMaps (open_string shut_string)
set_option linter.unusedVariables false      -- a walk need not use every 'w<i>' (that an integer argument fits its kind)

theorem own : ownKnob Try.prog.godebug = none := by kernel_rfl


set_option maxRecDepth 20000 in
set_option maxHeartbeats 1000000 in
theorem walk (a0 : Int) (a1 : Int) (w0 : (Lit.int .u32 a0).wf = true) (w1 : (Lit.int .u32 a1).wf = true) (w : World) :
    Calls Try.prog 5 #[.int .u32 a0, .int .u32 a1] w fun e w' => e = .returned (.bool true) ∧ Below w.heap.size w w' := by
  have b0 := bounds_u32 w0
  have b1 := bounds_u32 w1
  clear w0 w1
  obtain ⟨x0, x1⟩ := b0
  obtain ⟨y0, y1⟩ := b1
  obtain ⟨a, ha⟩ := Int.eq_ofNat_of_zero_le (show 0 ≤ a0 % 1048576 by omega)
  obtain ⟨b, hb⟩ := Int.eq_ofNat_of_zero_le (show 0 ≤ a1 % 1048576 by omega)
  have a20 : a < 1048576 := by omega
  have b20 : b < 1048576 := by omega
  have SA := hide (fun w => split12 (a + 1) w (by omega) (by omega))
  have SB := hide (fun w => split12 (b + 1) w (by omega) (by omega))
  rw [show ((a + 1 : Nat) : Int) = (a : Int) + 1 from rfl] at SA
  rw [show ((b + 1 : Nat) : Int) = (b : Int) + 1 from rfl] at SB
  go_enter Try.func5, Try.ntmps5
  go_wp2_with fail
  refine (unhide SA _).mono ?_
  rintro e w' ⟨s, p, i, rfl, m1, rfl⟩
  have I := hide i
  clear i
  go_wp2_with fail
  refine (unhide SB _).mono ?_
  rintro e w' ⟨t, q, j, rfl, m2, rfl⟩
  have i := unhide I
  have K : (a < b ∧ s < t) ∨ (a < b ∧ s = t ∧ p < q) ∨ (a = b ∧ s = t ∧ p = q) ∨ b < a := by
    rcases Nat.lt_trichotomy a b with h | h | h
    · rcases frs_less s t p q i.sym j.sym j.low (by have := i.num; have := j.num; omega) with u | ⟨u, v⟩
      · exact .inl ⟨h, u⟩
      · exact .inr (.inl ⟨h, u, v⟩)
    · obtain ⟨u, v⟩ := frs_one s t p q i.sym j.sym i.low j.low (by have := i.num; have := j.num; omega)
      exact .inr (.inr (.inl ⟨h, u, v⟩))
    · exact .inr (.inr (.inr h))
  clear i j I
  generalize exn s = k1 at *
  generalize exn t = k2 at *
  have BB := hide (below_drew (below_drew (Below.refl w.heap.size w) m1) m2)
  generalize (w.drewN m1).drewN m2 = wA at *
  rcases K with ⟨h, u⟩ | ⟨h, u, v⟩ | ⟨h, u, v⟩ | h
  · have c1 : decide ((b : Int) + 1 ≤ (a : Int) + 1) = false := decide_eq_false (by omega)
    have c2 : decide ((s : Int) < (t : Int)) = true := decide_eq_true (by omega)
    have c3 : ((a : Int) + 1 != (b : Int) + 1) = true := by rw [bne_iff_ne]; omega
    go_wp2_with fail
    refine (ans7 _).mono ?_
    rintro e w' ⟨rfl, m3, rfl⟩
    go_wp2
    go_ret
    exact ⟨rfl, below_drew (unhide BB) m3⟩
  · subst u
    have c1 : decide ((b : Int) + 1 ≤ (a : Int) + 1) = false := decide_eq_false (by omega)
    have c2 : decide ((p : Int) < (q : Int)) = true := decide_eq_true (by omega)
    have c3 : ((a : Int) + 1 != (b : Int) + 1) = true := by rw [bne_iff_ne]; omega
    go_wp2_with fail
    refine (ans7 _).mono ?_
    rintro e w' ⟨rfl, m3, rfl⟩
    go_wp2
    go_ret
    exact ⟨rfl, below_drew (unhide BB) m3⟩
  · subst u v h
    clear SB hb
    go_wp2_with fail
    refine (ans7 _).mono ?_
    rintro e w' ⟨rfl, m3, rfl⟩
    go_wp2
    go_ret
    exact ⟨rfl, below_drew (unhide BB) m3⟩
  · have c1 : decide ((b : Int) + 1 ≤ (a : Int) + 1) = true := decide_eq_true (by omega)
    have c3 : ((a : Int) + 1 != (b : Int) + 1) = true := by rw [bne_iff_ne]; omega
    go_wp2_with fail
    refine (ans7 _).mono ?_
    rintro e w' ⟨rfl, m3, rfl⟩
    go_wp2
    go_ret
    exact ⟨rfl, below_drew (unhide BB) m3⟩

/-! ### THE ROW's STEP: WRITTEN OUT: LEAVE IT -/
set_option maxRecDepth 100000 in
theorem lifted (os : Os) (started : os.Started) (H : Type) (enc : TypeId × Value → H) :
    ReturnsInHanded {} Try.checked os 5 .any (Rows.valueOrderSpec.pre6 enc Try.prog Try.f5 Rows.valueOrderRow.domain false) (Rows.valueOrderSpec.post enc Try.prog Try.f5 false true false false) := by
  refine returnsInHanded_of_change (C := Try.checked) own started (by kernel_rfl) Try.func5
    (ChangeSpec.witness6 (enc := enc) (C := Try.checked) false ⟨#[], #[.int .u32 0, .int .u32 0], []⟩ 8 (by kernel_rfl) (by kernel_rfl) (by kernel_rfl) (by kernel_rfl)) ?_
  intro W base args ds gs before hval0 hW hcnd _
  have hval : ∀ (j : Nat) t v, Try.f5.params[j]? = some t → args[j]? = some v → Value.okWide Try.prog W .any base t v := hval0
  have hW' := hW
  obtain ⟨p, q, hA0, hV, rfl, hfz, hnd⟩ := hW
  have hA : DataW.TrodAll enc Try.prog W 0 (fun _ => true) true Try.f5.params.toList args.toList ds p := hA0
  rw [Try.params5] at hA hval
  obtain ⟨v0, vs0, d0, ds0, p0, q0, hargs, rfl, rfl, h0, r0⟩ := trodAll_cons hA
  obtain ⟨v1, vs1, d1, ds1, p1, q1, rfl, rfl, rfl, h1, r1⟩ := trodAll_cons r0
  obtain ⟨rfl, rfl, rfl⟩ := trodAll_nil r1
  obtain rfl : args = #[v0, v1] := by cases args; simp_all
  obtain ⟨rfl, rfl⟩ := trodVars_none hV
  obtain ⟨a0, rfl, rfl, rfl, w0⟩ := open_int Try.underlying22 (hval 0 22 v0 rfl rfl) h0
  obtain ⟨a1, rfl, rfl, rfl, w1⟩ := open_int Try.underlying22 (hval 1 22 v1 rfl rfl) h1
  clear hA0 hval0
  refine (walk a0 a1 w0 w1 W).mono fun e W' ⟨he, bel⟩ => ?_
  subst he
  exact ⟨_, rfl, _, _, _, [], _, [], hW', trodAll_mk1 (shut_bool Try.underlying4 _), (trodAll_cons_mk (shut_int Try.underlying22 w0) (trodAll_cons_mk (shut_int Try.underlying22 w1) trodAll_mk0)), rfl, bel.frame _, fun h => by cases h⟩

theorem over : Rows.valueOrderRow.holds Try.pinned (OpenSpec.ofChange Rows.valueOrderSpec) :=
  OpenClaim.holds_of_wide 5 Try.f5 rfl rfl rfl rfl rfl rfl rfl ⟨rfl, rfl, rfl, rfl, rfl⟩ rfl rfl rfl rfl rfl (by kernel_rfl) Try.func5 (by kernel_rfl)
    (of_decide_eq_true (by kernel_rfl)) (by unfold Func.isWrapper; first | (rw [if_pos (by decide +kernel)]; kernel_rfl) | (rw [if_neg (by decide +kernel)]; exact ⟨rfl, rfl⟩))
    (fun os started H enc _ => lifted os started H enc)

/-- ████ THE STATEMENT ████ -/
theorem proved : Rows.ValueOrderSaid :=
  over
#print axioms proved
end Go.Proofs.Ytcmamkoapeadnaa.valueOrder
