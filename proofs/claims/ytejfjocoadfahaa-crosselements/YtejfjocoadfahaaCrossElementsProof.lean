/-
  What is proved: Any element is a pixel that is it again, a pixel's element is the pixel but for alpha, and Delta is the document's and hangs on no order, and the arguments are as they were: the Go function CrossElements of the statements of layer 14 returns true for all arguments.
  Conditions: none.
-/
import Derived.Test.YtejfjocoadfahaaRows
import Derived.Test.YtejfjocoadfahaaXLes
import Derived.WalkKit
import Derived.ProofKit
import Derived.OpenShut
import Derived.ShutString
import Derived.ChangeOld
import Derived.Below
import Derived.Deep.Grids
import Derived.Lib.SmallJoins
namespace Go.Proofs.Ytejfjocoadfahaa.crossElements
open Go.ChangeShapes Go.WideShapes Go.ChangeAt Go.RowKit
open Go.Proofs.Ytejfjocoadfahaa.Core Go.Proofs.Ytejfjocoadfahaa.PNum Go.Proofs.Ytejfjocoadfahaa.PPrt Go.Proofs.Ytejfjocoadfahaa.XNum Go.Proofs.Ytejfjocoadfahaa.Ims Go.Proofs.Ytejfjocoadfahaa.XDel Go.Proofs.Ytejfjocoadfahaa.XLes
open Go.ChangeMaps (open_string shut_string)
set_option linter.unusedVariables false

theorem own : ownKnob Try.prog.godebug = none := by kernel_rfl
theorem laidOut : laidOutB Try.prog = true := by kernel_rfl

/-- A slice of integers that came in: nil, or a row of cells, each fitting its kind. -/
def IsRow (k : IntKind) (w : World) (a : Option Addr) (len cap : Nat) (zs : List Int) : Prop :=
  (a = none ∧ len = 0 ∧ cap = 0 ∧ zs = []) ∨
  ∃ x, a = some x ∧ len ≤ cap ∧ cap ≤ maxLen ∧ zs.length = cap ∧ (∀ i, i < zs.length → w.cell? (x.add i) = some (.int k (zs.getD i 0))) ∧ ∀ n ∈ zs, (Lit.int k n).wf = true
/-- A slice of bools that came in. -/
def IsBools (w : World) (a : Option Addr) (len cap : Nat) (B : Nat → Bool) : Prop :=
  (a = none ∧ len = 0 ∧ cap = 0) ∨ ∃ x, a = some x ∧ len ≤ cap ∧ cap ≤ maxLen ∧ ∀ i, i < cap → w.cell? (x.add i) = some (.bool (B i))
open Go.Sort
theorem msk_nat {n : Nat} (h : n < 4294967296) : bits .and .u32 (n : Int) 16777215 = ((n &&& 16777215 : Nat) : Int) := u32_and_nat n 16777215 h (by omega)
set_option maxRecDepth 20000 in
set_option maxHeartbeats 1000000 in
theorem walk (a0_0 : Int) (a0_1 : Int) (a0_2 : Int) (a1 : Int) (a2 : Int) (a3 : Int) (w : World) (w0_0 : (Lit.int .i8 a0_0).wf = true) (w0_1 : (Lit.int .i8 a0_1).wf = true) (w0_2 : (Lit.int .i8 a0_2).wf = true) (w1 : (Lit.int .u32 a1).wf = true) (w2 : (Lit.int .i8 a2).wf = true) (w3 : (Lit.int .i8 a3).wf = true) :
    Calls Try.prog 4 #[.agg #[.int .i8 a0_0, .int .i8 a0_1, .int .i8 a0_2], .int .u32 a1, .int .i8 a2, .int .i8 a3] w fun e w' => e = .returned (.bool true) ∧ Below w.heap.size w w' := by
  obtain ⟨x0, x1⟩ := bounds_i8 w0_0
  obtain ⟨y0, y1⟩ := bounds_i8 w0_1
  obtain ⟨z0, z1⟩ := bounds_i8 w0_2
  obtain ⟨p0, p1⟩ := bounds_u32 w1
  obtain ⟨t0, t1⟩ := bounds_i8 w2
  obtain ⟨s0, s1⟩ := bounds_i8 w3
  obtain ⟨p, rfl⟩ := Int.eq_ofNat_of_zero_le p0
  have he : (El.mk a0_0 a0_1 a0_2).ok := ⟨x0, x1, y0, y1, z0, z1⟩
  have hp : p < 4294967296 := by omega
  obtain ⟨q, hq⟩ : ∃ q, epx ⟨a0_0, a0_1, a0_2⟩ = q := ⟨_, rfl⟩
  have hql : q < 4294967296 := hq ▸ epx_lt _
  have Q1 := hide (fun w => pixel12 ⟨a0_0, a0_1, a0_2⟩ w)
  have Q2 := hide (fun w => of13 p w)
  have Q3 := hide (fun w => of13 q w)
  have E3 : pel q = ⟨a0_0, a0_1, a0_2⟩ := by rw [← hq]; exact pel_epx he
  have Q4 := hide (fun w => part10 q 0 (by omega) w)
  have E4 : pt q 0 = 255 := by rw [← hq]; exact epx_0 _
  obtain ⟨f, hf⟩ : ∃ f, pel p = f := ⟨_, rfl⟩
  obtain ⟨v, hv⟩ : ∃ v, epx f = v := ⟨_, rfl⟩
  have hvl : v < 4294967296 := hv ▸ epx_lt _
  have K1 : bits .and .u32 (v : Int) 16777215 = bits .and .u32 (p : Int) 16777215 := by
    rw [msk_nat hvl, msk_nat hp, ← hv, ← hf, epx_pel]
  have Q5 := hide (fun w => pixel12 f w)
  have Q6 := hide (fun w => delta15 a2 a3 t0 t1 s0 s1 w)
  have Q7 := hide (fun w => delta15 a3 a2 s0 s1 t0 t1 w)
  have Q8 := hide (fun w => rdelta16 a2 a3 t0 t1 s0 s1 w)
  rw [hq] at Q1
  rw [hf] at Q2
  rw [hv] at Q5
  rw [E3] at Q3
  rw [E4] at Q4
  rw [dl_comm a3 a2] at Q7
  obtain ⟨fa, fb, fc⟩ := f
  generalize dl a2 a3 = d at *
  obtain ⟨m, K2⟩ : ∃ m, bits .and .u32 (p : Int) 16777215 = m := ⟨_, rfl⟩
  rw [K2] at K1
  have BX := hide (Box.made w 37 #[.int .i8 a0_0, .int .i8 a0_1, .int .i8 a0_2])
  have BL := hide (bel_a1 w (.cells #[.int .i8 a0_0, .int .i8 a0_1, .int .i8 a0_2] 37))
  clear he hq hf hv E3 E4 w0_0 w0_1 w0_2 w1 w2 w3 x0 x1 y0 y1 z0 z1
  go_enter Try.func4, Try.ntmps4
  obtain ⟨c0, c1, c2⟩ := box_el (unhide BX)
  go_wp2_with fail
  refine (unhide Q1 _).mono ?_
  rintro e w1 ⟨rfl, b1⟩
  have X1 := hide ((unhide BX).below b1 (unhide BX).lt)
  have B1 := hide (bel_into (unhide BL) b1)
  clear b1 c0 c1 c2 BX BL
  go_wp2_with fail
  refine (unhide Q2 _).mono ?_
  rintro e w2 ⟨rfl, b2⟩
  have X2 := hide (((unhide X1).below b2 (unhide X1).lt).alloc (.cells #[.int .i8 fa, .int .i8 fb, .int .i8 fc] 37))
  have F2 := hide (Box.made w2 37 #[.int .i8 fa, .int .i8 fb, .int .i8 fc])
  have B2 := hide (bel_into (bel_into (unhide B1) b2) (bel_a1 w2 (.cells #[.int .i8 fa, .int .i8 fb, .int .i8 fc] 37)))
  clear b2
  go_upto_region 4 with fail
  generalize w2.heap.size = gf at *
  generalize w2.alloc (.cells #[.int .i8 fa, .int .i8 fb, .int .i8 fc] 37) = wr at *
  obtain ⟨c0, c1, c2⟩ := box_el (unhide X2)
  obtain ⟨d0, d1, d2⟩ := box_el (unhide F2)
  have k0 := cell_regrown c0
  have k1 := cell_regrown c1
  have k2 := cell_regrown c2
  have l0 := cell_regrown d0
  have l1 := cell_regrown d1
  have l2 := cell_regrown d2
  have A8 : Hid (∀ d os, Calls Try.prog 8 #[] (grow (redrawn wr d) os) fun e w'' => e = .returned (.bool true) ∧ ∃ p : Regrown, w'' = grow (redrawn wr p.d) p.os) := hide fun d os => Calls.regrown_of (ans8 _)
  have A13 : Hid (∀ d os, Calls Try.prog 13 #[.int .u32 q] (grow (redrawn wr d) os) fun e w'' => e = .returned (.agg #[.int .i8 a0_0, .int .i8 a0_1, .int .i8 a0_2]) ∧ ∃ p : Regrown, w'' = grow (redrawn wr p.d) p.os) := hide fun d os => Calls.regrown_of (unhide Q3 _)
  have A14 : Hid (∀ d os, Calls Try.prog 14 #[.int .u32 q, .int .i64 0] (grow (redrawn wr d) os) fun e w'' => e = .returned (.int .i64 255) ∧ ∃ p : Regrown, w'' = grow (redrawn wr p.d) p.os) := hide fun d os => Calls.regrown_of ((unhide Q4 _).mono fun e w' h => ⟨h.1, h.2 ▸ Below.refl _ _⟩)
  have A12 : Hid (∀ d os, Calls Try.prog 12 #[.agg #[.int .i8 fa, .int .i8 fb, .int .i8 fc]] (grow (redrawn wr d) os) fun e w'' => e = .returned (.int .u32 v) ∧ ∃ p : Regrown, w'' = grow (redrawn wr p.d) p.os) := hide fun d os => Calls.regrown_of (unhide Q5 _)
  have A15 : Hid (∀ d' os, Calls Try.prog 15 #[.int .i8 a2, .int .i8 a3] (grow (redrawn wr d') os) fun e w'' => e = .returned (.int .i64 d) ∧ ∃ p : Regrown, w'' = grow (redrawn wr p.d) p.os) := hide fun d' os => Calls.regrown_of ((unhide Q6 _).mono fun e w' h => ⟨h.1, h.2 ▸ Below.refl _ _⟩)
  have B15 : Hid (∀ d' os, Calls Try.prog 15 #[.int .i8 a3, .int .i8 a2] (grow (redrawn wr d') os) fun e w'' => e = .returned (.int .i64 d) ∧ ∃ p : Regrown, w'' = grow (redrawn wr p.d) p.os) := hide fun d' os => Calls.regrown_of ((unhide Q7 _).mono fun e w' h => ⟨h.1, h.2 ▸ Below.refl _ _⟩)
  have A16 : Hid (∀ d' os, Calls Try.prog 16 #[.int .i64 a2, .int .i64 a3] (grow (redrawn wr d') os) fun e w'' => e = .returned (.int .i64 d) ∧ ∃ p : Regrown, w'' = grow (redrawn wr p.d) p.os) := hide fun d' os => Calls.regrown_of ((unhide Q8 _).mono fun e w' h => ⟨h.1, h.2 ▸ Below.refl _ _⟩)
  clear c0 c1 c2 d0 d1 d2
  go_wp2_with fail
  refine wp_region_quiet_below (by kernel_rfl) (by kernel_rfl) ?_
  repeat (go_big_quiet_step (first | (go_at_call 8; with_reducible exact unhide A8 _ _) | (go_at_call 13; with_reducible exact unhide A13 _ _) | (go_at_call 14; with_reducible exact unhide A14 _ _) | (go_at_call 12; with_reducible exact unhide A12 _ _) | (go_at_call 15; with_reducible exact unhide A15 _ _) | (go_at_call 15; with_reducible exact unhide B15 _ _) | (go_at_call 16; with_reducible exact unhide A16 _ _)))
  refine wpQuiet_nil ?_
  intro _ hw'
  obtain ⟨⟨dq, osq⟩, hw''⟩ := hw'
  subst hw''
  go_wp2
  go_ret
  exact ⟨rfl, below_two (unhide B2) (below_regrown wr dq osq)⟩

set_option maxRecDepth 100000 in
theorem lifted (os : Os) (started : os.Started) (H : Type) (enc : TypeId × Value → H) :
    ReturnsInHanded {} Try.checked os 4 .any (Rows.crossElementsSpec.pre6 enc Try.prog Try.f4 Rows.crossElementsRow.domain false) (Rows.crossElementsSpec.post enc Try.prog Try.f4 false true false false) := by
  refine returnsInHanded_of_change (C := Try.checked) own started (by kernel_rfl) Try.func4
    (ChangeSpec.witness6 (enc := enc) (C := Try.checked) false ⟨#[], #[.agg #[.int .i8 0, .int .i8 0, .int .i8 0], .int .u32 0, .int .i8 0, .int .i8 0], []⟩ 8 (by kernel_rfl) (by kernel_rfl) (by kernel_rfl) (by kernel_rfl)) ?_
  intro W base args ds gs before hval0 hW hcnd _
  have hval : ∀ (j : Nat) t v, Try.f4.params[j]? = some t → args[j]? = some v → Value.okWide Try.prog W .any base t v := hval0
  have hW' := hW
  obtain ⟨p, q, hA0, hV, rfl, hfz, hnd⟩ := hW
  have hA : DataW.TrodAll enc Try.prog W 0 (fun _ => true) true Try.f4.params.toList args.toList ds p := hA0
  rw [Try.params4] at hA hval
  obtain ⟨v0, vs0, d0, ds0, p0, q0, hargs, rfl, rfl, h0, r0⟩ := trodAll_cons hA
  obtain ⟨v1, vs1, d1, ds1, p1, q1, rfl, rfl, rfl, h1, r1⟩ := trodAll_cons r0
  obtain ⟨v2, vs2, d2, ds2, p2, q2, rfl, rfl, rfl, h2, r2⟩ := trodAll_cons r1
  obtain ⟨v3, vs3, d3, ds3, p3, q3, rfl, rfl, rfl, h3, r3⟩ := trodAll_cons r2
  obtain ⟨rfl, rfl, rfl⟩ := trodAll_nil r3
  obtain rfl : args = #[v0, v1, v2, v3] := by cases args; simp_all
  obtain ⟨rfl, rfl⟩ := trodVars_none hV
  have k0 := h0
  have lt0 : ∀ x ∈ p0, x.block < W.heap.size := by obtain ⟨m, hm⟩ := k0; exact DataW.trod_lt m _ _ _ hm
  obtain ⟨c0_0, c0_1, c0_2, y0_0, y0_1, y0_2, m0, rfl, _, _, hy0_0, hy0_1, hy0_2⟩ := Go.Joins.open_agg3 Try.underlying37 (by kernel_rfl) (by kernel_rfl) (hval 0 37 v0 rfl rfl) h0
  obtain ⟨a0_0, e0_0, _, w0_0⟩ := DataW.trod_int Try.underlying35 hy0_0
  simp only [List.cons.injEq, and_true] at e0_0
  subst e0_0
  obtain ⟨a0_1, e0_1, _, w0_1⟩ := DataW.trod_int Try.underlying35 hy0_1
  simp only [List.cons.injEq, and_true] at e0_1
  subst e0_1
  obtain ⟨a0_2, e0_2, _, w0_2⟩ := DataW.trod_int Try.underlying35 hy0_2
  simp only [List.cons.injEq, and_true] at e0_2
  subst e0_2
  obtain ⟨a1, rfl, rfl, rfl, w1⟩ := open_int Try.underlying32 (hval 1 32 v1 rfl rfl) h1
  obtain ⟨a2, rfl, rfl, rfl, w2⟩ := open_int Try.underlying35 (hval 2 35 v2 rfl rfl) h2
  obtain ⟨a3, rfl, rfl, rfl, w3⟩ := open_int Try.underlying35 (hval 3 35 v3 rfl rfl) h3
  clear hA0 hval0
  refine (walk a0_0 a0_1 a0_2 a1 a2 a3 W w0_0 w0_1 w0_2 w1 w2 w3).mono fun e W' ⟨he, bel⟩ => ?_
  subst he
  exact ⟨_, rfl, _, _, _, [], _, [], hW', trodAll_mk1 (shut_bool Try.underlying4 _), (trodAll_cons_mk (Below.trod laidOut (by kernel_rfl) (of_decide_eq_true (by kernel_rfl)) k0 bel lt0) (trodAll_cons_mk (shut_int Try.underlying32 w1) (trodAll_cons_mk (shut_int Try.underlying35 w2) (trodAll_cons_mk (shut_int Try.underlying35 w3) trodAll_mk0)))), rfl, bel.frame _, fun h => by cases h⟩

theorem over : Rows.crossElementsRow.holds Try.pinned (OpenSpec.ofChange Rows.crossElementsSpec) :=
  OpenClaim.holds_of_wide 4 Try.f4 rfl rfl rfl rfl rfl rfl rfl ⟨rfl, rfl, rfl, rfl, rfl⟩ rfl rfl rfl rfl rfl (by kernel_rfl) Try.func4 (by kernel_rfl)
    (of_decide_eq_true (by kernel_rfl)) (by unfold Func.isWrapper; first | (rw [if_pos (by decide +kernel)]; kernel_rfl) | (rw [if_neg (by decide +kernel)]; exact ⟨rfl, rfl⟩))
    (fun os started H enc _ => lifted os started H enc)

/-- The statement. -/
theorem proved : Rows.CrossElementsSaid := over
#print axioms proved
end Go.Proofs.Ytejfjocoadfahaa.crossElements
