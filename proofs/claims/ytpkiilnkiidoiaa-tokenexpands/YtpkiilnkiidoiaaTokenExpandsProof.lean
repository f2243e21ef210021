/-
  What is proved: for every slice of steps, number of pixels and number of bits the Go function TokenExpands of the statements of layer 17 returns true, and its arguments read as before.
  Conditions: none.
-/
import Derived.Test.YtpkiilnkiidoiaaRows
import Derived.Test.YtpkiilnkiidoiaaKRex
import Derived.Test.YtpkiilnkiidoiaaKAns
import Derived.Test.YtpkiilnkiidoiaaKFin
import Derived.Test.YtpkiilnkiidoiaaKFit
import Derived.WalkKit
import Derived.ProofKit
import Derived.OpenShut
import Derived.ShutString
import Derived.ChangeOld
import Derived.Below
import Derived.Deep.Grids
import Derived.Lib.SmallJoins
namespace Go.Proofs.Ytpkiilnkiidoiaa.tokenExpands
open Go.ChangeShapes Go.WideShapes Go.ChangeAt Go.RowKit
open Go.Proofs.Ytpkiilnkiidoiaa.Core Go.Proofs.Ytpkiilnkiidoiaa.CNum Go.Proofs.Ytpkiilnkiidoiaa.KNum Go.Proofs.Ytpkiilnkiidoiaa.KMem Go.Proofs.Ytpkiilnkiidoiaa.KInp Go.Proofs.Ytpkiilnkiidoiaa.KFit Go.Proofs.Ytpkiilnkiidoiaa.KExp Go.Proofs.Ytpkiilnkiidoiaa.KRex Go.Proofs.Ytpkiilnkiidoiaa.KAns Go.Proofs.Ytpkiilnkiidoiaa.KFin
open Go.ChangeMaps (open_string shut_string)
set_option linter.unusedVariables false

theorem own : ownKnob Try.prog.godebug = none := by kernel_rfl
theorem laidOut : laidOutB Try.prog = true := by kernel_rfl

/-- A slice of integers that came in: nil, or a row of cells, each fitting its kind. -/
def IsRow (k : IntKind) (w : World) (a : Option Addr) (len cap : Nat) (zs : List Int) : Prop :=
  (a = none ∧ len = 0 ∧ cap = 0 ∧ zs = []) ∨
  ∃ x, a = some x ∧ len ≤ cap ∧ cap ≤ maxLen ∧ zs.length = cap ∧ (∀ i, i < zs.length → w.cell? (x.add i) = some (.int k (zs.getD i 0))) ∧ ∀ n ∈ zs, (Lit.int k n).wf = true
/-- A slice of bools that came in. -/
def IsBools (w : World) (a : Option Addr) (len cap : Nat) (B : Nat → Bool) : Prop :=
  (a = none ∧ len = 0 ∧ cap = 0) ∨ ∃ x, a = some x ∧ len ≤ cap ∧ cap ≤ maxLen ∧ ∀ i, i < cap → w.cell? (x.add i) = some (.bool (B i))
theorem a1_below {w w' : World} {r : Option Nat} (gr : (w.alloc (.cells #[] 37)).grownBy w' r) (h : r = some w.heap.size) : Below w.heap.size w w' :=
  (bel_a1 w _).grown gr (by simp) (fun k e => by rw [h] at e; cases e; exact Nat.le_refl _)
set_option maxRecDepth 20000 in
set_option maxHeartbeats 1000000 in
theorem walk (a0 : Option Addr) (len0 cap0 : Nat) (a1 : Int) (a2 : Int) (w : World) (w0 : IsTks w a0 len0 cap0) (w1 : (Lit.int .i64 a1).wf = true) (w2 : (Lit.int .i64 a2).wf = true) :
    Calls Try.prog 3 #[.slice a0 len0 cap0, .int .i64 a1, .int .i64 a2] w fun e w' => e = .returned (.bool true) ∧ Below w.heap.size w w' := by
  have AN := hide answers8
  have i3 : (len0 : Int) ≤ (len0 : Int) := Int.le_refl _
  clear i3
  by_cases h1 : 200 < len0
  · have i1 : (200 : Int) < (len0 : Int) := by omega
    go_enter Try.func3, Try.ntmps3
    go_wp2_with fail
    refine (unhide AN _).mono ?_
    rintro e w1 ⟨rfl, B1⟩
    have BB := hide B1
    clear B1
    go_wp2
    go_ret
    exact ⟨rfl, unhide BB⟩
  have i1 : ¬ (200 : Int) < (len0 : Int) := by omega
  by_cases h2 : 5000 < a1
  · clear h1
    go_enter Try.func3, Try.ntmps3
    go_wp2_with fail
    refine (unhide AN _).mono ?_
    rintro e w1 ⟨rfl, B1⟩
    have BB := hide B1
    clear B1
    go_wp2
    go_ret
    exact ⟨rfl, unhide BB⟩
  obtain ⟨ts, hl, TK, HA⟩ := tks_of w0
  have hcap : a0 = none → cap0 = 0 := fun e => by
    rcases w0 with ⟨_, _, h⟩ | ⟨x, h, _⟩
    · exact h
    · rw [e] at h; cases h
  have T0 := hide (And.intro hl (And.intro TK (And.intro HA hcap)))
  have OE := own_empty w 37 5
  have hlen : len0 ≤ 200 := by omega
  clear w0 w1 w2 hl TK HA hcap h1
  by_cases hbad : a1 < 0 ∨ a2 < 0 ∨ 11 < a2
  · have HBAD := hide (And.intro hbad (show a1 ≤ 5000 by omega))
    have d1 : (a1 < 0) ∨ (0 ≤ a1 ∧ a2 < 0) ∨ (0 ≤ a1 ∧ 0 ≤ a2 ∧ 11 < a2) := by omega
    clear hbad
    rcases d1 with g1 | ⟨g1, g2⟩ | ⟨g1, g2, g3⟩
    all_goals
      go_enter Try.func3, Try.ntmps3
      go_wp2_with (first | (at_builtin; refine app_tks rfl (.tmp 20) (.tmp 21) rfl w.heap.size _ rfl OE w.heap.size a0 len0 cap0 ts rfl (unhide T0).1 ((unhide T0).2.1.below (bel_a1 w _)) (unhide T0).2.2.2 (by omega) (by simp) ?_; intro a' c' wz tk gr; have B1 := hide (a1_below gr rfl); clear tk gr) | (go_at_call 9; fail))
      refine (expand9_bad a' len0 c' a1 a2 _ (unhide HBAD).2 (unhide HBAD).1).mono ?_
      rintro e wy ⟨rfl, rfl⟩
      go_wp2_with fail
      refine (unhide AN _).mono ?_
      rintro e w3 ⟨rfl, B3⟩
      have BB := hide (bel_into (unhide B1) B3)
      clear B3
      go_wp2
      go_ret
      exact ⟨rfl, unhide BB⟩
  obtain ⟨m, rfl⟩ := Int.eq_ofNat_of_zero_le (show 0 ≤ a1 by omega)
  obtain ⟨b, rfl⟩ := Int.eq_ofNat_of_zero_le (show 0 ≤ a2 by omega)
  have HM := hide (show m ≤ 5000 ∧ b ≤ 11 by omega)
  have t1 : decide ((5000 : Int) < (m : Int)) = false := decide_eq_false (by omega)
  have t2 : decide ((m : Int) < 0) = false := decide_eq_false (by omega)
  have t3 : decide ((b : Int) < 0) = false := decide_eq_false (by omega)
  have t4 : decide ((11 : Int) < (b : Int)) = false := decide_eq_false (by omega)
  have t5 : ¬ (5000 : Int) < (m : Int) := by omega
  have t6 : ¬ (11 : Int) < (b : Int) := by omega
  have XL := hide (show (lz (allP b m ts)).length ≤ 5000 from Nat.le_trans lz_len (unhide HM).1)
  have LT := hide hlen
  clear hbad h2
  go_enter Try.func3, Try.ntmps3
  go_wp2_with (first | (at_builtin; refine app_tks rfl (.tmp 20) (.tmp 21) rfl w.heap.size _ rfl OE w.heap.size a0 len0 cap0 ts rfl (unhide T0).1 ((unhide T0).2.1.below (bel_a1 w _)) (unhide T0).2.2.2 (by omega) (by simp) ?_; intro a' c' wz tk gr; have B1 := hide (a1_below gr rfl); have TK := hide tk; clear tk gr) | (go_at_call 9; fail))
  refine (expand9 (c := c') m b (unhide TK) (unhide T0).1.symm (by have := unhide LT; omega) (by have := (unhide HM).1; omega) (unhide HM).2 (Nat.le_refl _)).mono ?_
  rintro e w3 hx
  obtain ⟨xa, xc, rfl, XP, B3⟩ := xans_form hx
  have B4 := hide (bel_into (unhide B1) B3)
  have XP3 := hide XP
  clear hx XP B3
  have R := hide (rexpand10 (c := cap0) m b ((unhide T0).2.1.below (unhide B4)) (unhide T0).1.symm (by have := unhide LT; omega) (by have := (unhide HM).1; omega) (unhide HM).2 (unhide B4).size (unhide T0).2.2.1)
  generalize hl2 : lz (allP b m ts) = lx at *
  generalize hz2 : zz (allP b m ts) = zx at *
  have HLZ := hide (And.intro hl2 hz2)
  clear hl2 hz2
  go_wp2_with fail
  refine (unhide R).mono ?_
  rintro e w5 hy
  obtain ⟨ya, yc, rfl, YP, B5⟩ := xans_form hy
  rw [(unhide HLZ).1] at YP
  have B6 := hide (bel_into (unhide B4) B5)
  have XP5 := hide ((unhide XP3).below B5)
  have YP5 := hide YP
  have Z35 := hide B5.size
  clear hy YP B5 R XP3
  rw [(unhide HLZ).1, (unhide HLZ).2]
  go_wp2_with fail
  refine (unhide AN _).mono ?_
  rintro e w7 ⟨rfl, B7⟩
  have P := hide (pixels11 (B := w7.heap.size) (n := lx.length) xc yc (((unhide XP5).mono (unhide Z35)).below B7 |>.mono B7.size) ((unhide YP5).below B7 |>.mono B7.size) rfl (by have := unhide XL; omega) (Nat.le_refl _))
  have B8 := hide (bel_into (unhide B6) B7)
  clear B7
  go_wp2_with fail
  refine (unhide P).mono ?_
  rintro e w9 ⟨rfl, B9⟩
  have BZ := hide (bel_into (unhide B8) B9)
  clear B9
  go_wp2
  go_ret
  exact ⟨rfl, unhide BZ⟩

set_option maxRecDepth 100000 in
theorem lifted (os : Os) (started : os.Started) (H : Type) (enc : TypeId × Value → H) :
    ReturnsInHanded {} Try.checked os 3 .any (Rows.tokenExpandsSpec.pre6 enc Try.prog Try.f3 Rows.tokenExpandsRow.domain false) (Rows.tokenExpandsSpec.post enc Try.prog Try.f3 false true false false) := by
  refine returnsInHanded_of_change (C := Try.checked) own started (by kernel_rfl) Try.func3
    (ChangeSpec.witness6 (enc := enc) (C := Try.checked) false ⟨#[], #[.slice none 0 0, .int .i64 0, .int .i64 0], []⟩ 8 (by kernel_rfl) (by kernel_rfl) (by kernel_rfl) (by kernel_rfl)) ?_
  intro W base args ds gs before hval0 hW hcnd _
  have hval : ∀ (j : Nat) t v, Try.f3.params[j]? = some t → args[j]? = some v → Value.okWide Try.prog W .any base t v := hval0
  have hW' := hW
  obtain ⟨p, q, hA0, hV, rfl, hfz, hnd⟩ := hW
  have hA : DataW.TrodAll enc Try.prog W 0 (fun _ => true) true Try.f3.params.toList args.toList ds p := hA0
  rw [Try.params3] at hA hval
  obtain ⟨v0, vs0, d0, ds0, p0, q0, hargs, rfl, rfl, h0, r0⟩ := trodAll_cons hA
  obtain ⟨v1, vs1, d1, ds1, p1, q1, rfl, rfl, rfl, h1, r1⟩ := trodAll_cons r0
  obtain ⟨v2, vs2, d2, ds2, p2, q2, rfl, rfl, rfl, h2, r2⟩ := trodAll_cons r1
  obtain ⟨rfl, rfl, rfl⟩ := trodAll_nil r2
  obtain rfl : args = #[v0, v1, v2] := by cases args; simp_all
  obtain ⟨rfl, rfl⟩ := trodVars_none hV
  obtain ⟨a0, len0, cap0, rfl⟩ := okWide_slice Try.underlying22 (hval 0 22 v0 rfl rfl)
  have k0 := h0
  have lt0 : ∀ x ∈ p0, x.block < W.heap.size := by obtain ⟨m, hm⟩ := k0; exact DataW.trod_lt m _ _ _ hm
  have w0 : IsTks W a0 len0 cap0 := by obtain ⟨fuel, hf⟩ := h0; exact tks_in (by simpa [Value.cells] using hf)
  obtain ⟨a1, rfl, rfl, rfl, w1⟩ := open_int Try.underlying3 (hval 1 3 v1 rfl rfl) h1
  obtain ⟨a2, rfl, rfl, rfl, w2⟩ := open_int Try.underlying3 (hval 2 3 v2 rfl rfl) h2
  clear hA0 hval0
  refine (walk a0 len0 cap0 a1 a2 W w0 w1 w2).mono fun e W' ⟨he, bel⟩ => ?_
  subst he
  exact ⟨_, rfl, _, _, _, [], _, [], hW', trodAll_mk1 (shut_bool Try.underlying4 _), (trodAll_cons_mk (Below.trod laidOut (by kernel_rfl) (of_decide_eq_true (by kernel_rfl)) k0 bel lt0) (trodAll_cons_mk (shut_int Try.underlying3 w1) (trodAll_cons_mk (shut_int Try.underlying3 w2) trodAll_mk0))), rfl, bel.frame _, fun h => by cases h⟩

theorem over : Rows.tokenExpandsRow.holds Try.pinned (OpenSpec.ofChange Rows.tokenExpandsSpec) :=
  OpenClaim.holds_of_wide 3 Try.f3 rfl rfl rfl rfl rfl rfl rfl ⟨rfl, rfl, rfl, rfl, rfl⟩ rfl rfl rfl rfl rfl (by kernel_rfl) Try.func3 (by kernel_rfl)
    (of_decide_eq_true (by kernel_rfl)) (by unfold Func.isWrapper; first | (rw [if_pos (by decide +kernel)]; kernel_rfl) | (rw [if_neg (by decide +kernel)]; exact ⟨rfl, rfl⟩))
    (fun os started H enc _ => lifted os started H enc)

/-- The statement. -/
theorem proved : Rows.TokenExpandsSaid := over
#print axioms proved
end Go.Proofs.Ytpkiilnkiidoiaa.tokenExpands
