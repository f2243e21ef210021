/-
  What is proved: for every image the Go function PixelGood of the statements of layer 11 returns true, and its argument reads as before.
  Conditions: none.
-/
import Derived.Test.YtfgegjdhimkenaaRows
import Derived.Test.YtfgegjdhimkenaaGoo
import Derived.WalkKit
import Derived.ProofKit
import Derived.OpenShut
import Derived.ShutString
import Derived.ChangeOld
import Derived.Below
import Derived.Deep.Grids
import Derived.Lib.SmallJoins
namespace Go.Proofs.Ytfgegjdhimkenaa.pixelGood
open Go.ChangeShapes Go.WideShapes Go.ChangeAt Go.RowKit
open Go.Proofs.Ytfgegjdhimkenaa.Core Go.Proofs.Ytfgegjdhimkenaa.Num Go.Proofs.Ytfgegjdhimkenaa.Prt Go.Proofs.Ytfgegjdhimkenaa.Fun Go.Proofs.Ytfgegjdhimkenaa.Goo
open Go.ChangeMaps (open_string shut_string)
set_option linter.unusedVariables false

theorem own : ownKnob Try.prog.godebug = none := by kernel_rfl
theorem laidOut : laidOutB Try.prog = true := by kernel_rfl

/-- A slice of integers that came in: nil, or a row of cells, each fitting its kind. -/
def IsRow (k : IntKind) (w : World) (a : Option Addr) (len cap : Nat) (zs : List Int) : Prop :=
  (a = none ∧ len = 0 ∧ cap = 0 ∧ zs = []) ∨
  ∃ x, a = some x ∧ len ≤ cap ∧ cap ≤ maxLen ∧ zs.length = cap ∧ (∀ i, i < zs.length → w.cell? (x.add i) = some (.int k (zs.getD i 0))) ∧ ∀ n ∈ zs, (Lit.int k n).wf = true
/-- A slice of bools that came in. -/
def IsBools (w : World) (a : Option Addr) (len cap : Nat) (B : Nat → Bool) : Prop :=
  (a = none ∧ len = 0 ∧ cap = 0) ∨ ∃ x, a = some x ∧ len ≤ cap ∧ cap ≤ maxLen ∧ ∀ i, i < cap → w.cell? (x.add i) = some (.bool (B i))
theorem keep_image {w0 : World} {g : Nat} {x y s : Value} (BX : Box w0 g 34 #[x, y, s]) : ∀ w', Below (g + 1) w0 w' →
    w'.cell? ⟨g, 0, none⟩ = some x ∧ w'.cell? ⟨g, 1, none⟩ = some y ∧ w'.cell? ⟨g, 2, none⟩ = some s := fun w' b =>
  ⟨((BX.below b (Nat.lt_succ_self _)).cell 0).trans rfl, ((BX.below b (Nat.lt_succ_self _)).cell 1).trans rfl, ((BX.below b (Nat.lt_succ_self _)).cell 2).trans rfl⟩

set_option maxRecDepth 20000 in
set_option maxHeartbeats 1000000 in
theorem walk (a0_0 : Int) (a0_1 : Int) (a0_2 : Option Addr) (len0_2 cap0_2 : Nat) (z0_2 : List Int) (w : World) (w0_0 : (Lit.int .i64 a0_0).wf = true) (w0_1 : (Lit.int .i64 a0_1).wf = true) (w0_2 : IsRow .u32 w a0_2 len0_2 cap0_2 z0_2) :
    Calls Try.prog 6 #[.agg #[.int .i64 a0_0, .int .i64 a0_1, .slice a0_2 len0_2 cap0_2]] w fun e w' => e = .returned (.bool true) ∧ Below w.heap.size w w' := by
  have BX := Box.made w 34 #[.int .i64 a0_0, .int .i64 a0_1, .slice a0_2 len0_2 cap0_2]
  have SZ : Hid ((w.alloc (.cells #[.int .i64 a0_0, .int .i64 a0_1, .slice a0_2 len0_2 cap0_2] 34)).heap.size = w.heap.size + 1) := by unfold Hid; simp
  have BL := (Below.refl w.heap.size w).alloc (Nat.le_refl _) (.cells #[.int .i64 a0_0, .int .i64 a0_1, .slice a0_2 len0_2 cap0_2] 34)
  have KEEP := hide (keep_image BX)
  have START := hide ((Below.refl (w.heap.size + 1) (w.alloc (.cells #[.int .i64 a0_0, .int .i64 a0_1, .slice a0_2 len0_2 cap0_2] 34))).drew)
  have WHOLE := hide BL
  clear BX BL w0_0 w0_1 w0_2
  go_enter Try.func6, Try.ntmps6
  go_wp2
  generalize w.alloc (.cells #[.int .i64 a0_0, .int .i64 a0_1, .slice a0_2 len0_2 cap0_2] 34) = w0 at *
  obtain ⟨c0, c1, c2⟩ := unhide KEEP _ (unhide START)
  go_region_with (first | (go_at_call 9; refine (ans9 _).mono ?_; rintro e w1 ⟨rfl, b1⟩; have B1 := hide ((unhide START).trans (b1.mono (Nat.le_of_eq (unhide SZ).symm))); obtain ⟨c01, c11, c21⟩ := unhide KEEP w1 (unhide B1); have S1 := hide b1.size; clear b1) | (go_at_call 24; refine (good24 _ _ _ _ _ _).mono ?_; rintro e w2 ⟨rfl, b2⟩; have B2 := hide ((unhide B1).trans (b2.mono (Nat.le_trans (Nat.le_of_eq (unhide SZ).symm) (unhide S1)))); obtain ⟨c02, c12, c22⟩ := unhide KEEP w2 (unhide B2); have S2 := hide (Nat.le_trans (unhide S1) b2.size); clear b2) | (go_at_call 25; refine (rgood25 _ _ _ _ _ _).mono ?_; rintro e w3 ⟨rfl, b3⟩; have B3 := hide ((unhide B2).trans (b3.mono (Nat.le_trans (Nat.le_of_eq (unhide SZ).symm) (unhide S2)))); clear b3; generalize gdV a0_0 a0_1 len0_2 = gg at *))
  all_goals go_wp2
  all_goals go_ret
  all_goals exact ⟨rfl, (unhide WHOLE).trans ((unhide B3).mono (Nat.le_succ _))⟩

set_option maxRecDepth 100000 in
theorem lifted (os : Os) (started : os.Started) (H : Type) (enc : TypeId × Value → H) :
    ReturnsInHanded {} Try.checked os 6 .any (Rows.pixelGoodSpec.pre6 enc Try.prog Try.f6 Rows.pixelGoodRow.domain false) (Rows.pixelGoodSpec.post enc Try.prog Try.f6 false true false false) := by
  refine returnsInHanded_of_change (C := Try.checked) own started (by kernel_rfl) Try.func6
    (ChangeSpec.witness6 (enc := enc) (C := Try.checked) false ⟨#[], #[.agg #[.int .i64 0, .int .i64 0, .slice none 0 0]], []⟩ 8 (by kernel_rfl) (by kernel_rfl) (by kernel_rfl) (by kernel_rfl)) ?_
  intro W base args ds gs before hval0 hW hcnd _
  have hval : ∀ (j : Nat) t v, Try.f6.params[j]? = some t → args[j]? = some v → Value.okWide Try.prog W .any base t v := hval0
  have hW' := hW
  obtain ⟨p, q, hA0, hV, rfl, hfz, hnd⟩ := hW
  have hA : DataW.TrodAll enc Try.prog W 0 (fun _ => true) true Try.f6.params.toList args.toList ds p := hA0
  rw [Try.params6] at hA hval
  obtain ⟨v0, vs0, d0, ds0, p0, q0, hargs, rfl, rfl, h0, r0⟩ := trodAll_cons hA
  obtain ⟨rfl, rfl, rfl⟩ := trodAll_nil r0
  obtain rfl : args = #[v0] := by cases args; simp_all
  obtain ⟨rfl, rfl⟩ := trodVars_none hV
  have k0 := h0
  have lt0 : ∀ x ∈ p0, x.block < W.heap.size := by obtain ⟨m, hm⟩ := k0; exact DataW.trod_lt m _ _ _ hm
  obtain ⟨c0_0, c0_1, c0_2, y0_0, y0_1, y0_2, m0, rfl, _, _, hy0_0, hy0_1, hy0_2⟩ := Go.Joins.open_agg3 Try.underlying34 (by kernel_rfl) (by kernel_rfl) (hval 0 34 v0 rfl rfl) h0
  obtain ⟨a0_0, e0_0, _, w0_0⟩ := DataW.trod_int Try.underlying3 hy0_0
  simp only [List.cons.injEq, and_true] at e0_0
  subst e0_0
  obtain ⟨a0_1, e0_1, _, w0_1⟩ := DataW.trod_int Try.underlying3 hy0_1
  simp only [List.cons.injEq, and_true] at e0_1
  subst e0_1
  obtain ⟨a0_2, len0_2, cap0_2, e0_2⟩ := Go.Joins.slice_form Try.underlying32 hy0_2
  simp only [List.cons.injEq, and_true] at e0_2
  subst e0_2
  obtain ⟨z0_2, w0_2⟩ : ∃ zs, IsRow .u32 W a0_2 len0_2 cap0_2 zs := by
    rcases open_ints Try.underlying32 Try.underlying22 (by kernel_rfl) hy0_2 with ⟨hcs, _⟩ | ⟨x, l, c, zs, hcs, _, hl, hm, hz, _, hcell, hwz⟩
    · simp at hcs
      obtain ⟨rfl, rfl, rfl⟩ := hcs
      exact ⟨[], .inl ⟨rfl, rfl, rfl, rfl⟩⟩
    · simp at hcs
      obtain ⟨rfl, rfl, rfl⟩ := hcs
      exact ⟨zs, .inr ⟨_, rfl, hl, hm, by simpa using hz, hcell, hwz⟩⟩
  clear hA0 hval0
  refine (walk a0_0 a0_1 a0_2 len0_2 cap0_2 z0_2 W w0_0 w0_1 w0_2).mono fun e W' ⟨he, bel⟩ => ?_
  subst he
  exact ⟨_, rfl, _, _, _, [], _, [], hW', trodAll_mk1 (shut_bool Try.underlying4 _), (trodAll_cons_mk (Below.trod laidOut (by kernel_rfl) (of_decide_eq_true (by kernel_rfl)) k0 bel lt0) trodAll_mk0), rfl, bel.frame _, fun h => by cases h⟩

theorem over : Rows.pixelGoodRow.holds Try.pinned (OpenSpec.ofChange Rows.pixelGoodSpec) :=
  OpenClaim.holds_of_wide 6 Try.f6 rfl rfl rfl rfl rfl rfl rfl ⟨rfl, rfl, rfl, rfl, rfl⟩ rfl rfl rfl rfl rfl (by kernel_rfl) Try.func6 (by kernel_rfl)
    (of_decide_eq_true (by kernel_rfl)) (by unfold Func.isWrapper; first | (rw [if_pos (by decide +kernel)]; kernel_rfl) | (rw [if_neg (by decide +kernel)]; exact ⟨rfl, rfl⟩))
    (fun os started H enc _ => lifted os started H enc)

/-- The statement. -/
theorem proved : Rows.PixelGoodSaid := over
#print axioms proved
end Go.Proofs.Ytfgegjdhimkenaa.pixelGood
