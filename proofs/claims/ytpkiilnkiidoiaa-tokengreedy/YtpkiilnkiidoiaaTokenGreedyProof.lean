/-
  What is proved: for every slice of colours and number of tries the Go function TokenGreedy of the statements of layer 17 returns true, and its arguments read as before.
  Conditions: none.
-/
import Derived.Test.YtpkiilnkiidoiaaRows
import Derived.Test.YtpkiilnkiidoiaaKGr7
import Derived.Test.YtpkiilnkiidoiaaKRfi
import Derived.Test.YtpkiilnkiidoiaaKAns
import Derived.Test.YtpkiilnkiidoiaaKFin
import Derived.Test.YtpkiilnkiidoiaaKFit
import Derived.WalkKit
import Derived.ProofKit
import Derived.OpenShut
import Derived.ShutString
import Derived.ChangeOld
import Derived.Below
import Derived.Deep.Grids
import Derived.Lib.SmallJoins
namespace Go.Proofs.Ytpkiilnkiidoiaa.tokenGreedy
open Go.ChangeShapes Go.WideShapes Go.ChangeAt Go.RowKit
open Go.Proofs.Ytpkiilnkiidoiaa.Core Go.Proofs.Ytpkiilnkiidoiaa.CNum Go.Proofs.Ytpkiilnkiidoiaa.KNum Go.Proofs.Ytpkiilnkiidoiaa.KMem Go.Proofs.Ytpkiilnkiidoiaa.KInp Go.Proofs.Ytpkiilnkiidoiaa.KFit Go.Proofs.Ytpkiilnkiidoiaa.KRfi Go.Proofs.Ytpkiilnkiidoiaa.KGr6 Go.Proofs.Ytpkiilnkiidoiaa.KGr7 Go.Proofs.Ytpkiilnkiidoiaa.KAns Go.Proofs.Ytpkiilnkiidoiaa.KFin
open Go.ChangeMaps (open_string shut_string)
set_option linter.unusedVariables false

theorem own : ownKnob Try.prog.godebug = none := by kernel_rfl
theorem laidOut : laidOutB Try.prog = true := by kernel_rfl

/-- A slice of integers that came in: nil, or a row of cells, each fitting its kind. -/
def IsRow (k : IntKind) (w : World) (a : Option Addr) (len cap : Nat) (zs : List Int) : Prop :=
  (a = none ∧ len = 0 ∧ cap = 0 ∧ zs = []) ∨
  ∃ x, a = some x ∧ len ≤ cap ∧ cap ≤ maxLen ∧ zs.length = cap ∧ (∀ i, i < zs.length → w.cell? (x.add i) = some (.int k (zs.getD i 0))) ∧ ∀ n ∈ zs, (Lit.int k n).wf = true
/-- A slice of bools that came in. -/
def IsBools (w : World) (a : Option Addr) (len cap : Nat) (B : Nat → Bool) : Prop :=
  (a = none ∧ len = 0 ∧ cap = 0) ∨ ∃ x, a = some x ∧ len ≤ cap ∧ cap ≤ maxLen ∧ ∀ i, i < cap → w.cell? (x.add i) = some (.bool (B i))
theorem a1_below {w w' : World} {r : Option Nat} (gr : (w.alloc (.cells #[] 35)).grownBy w' r) (h : r = some w.heap.size) : Below w.heap.size w w' :=
  (bel_a1 w _).grown gr (by simp) (fun k e => by rw [h] at e; cases e; exact Nat.le_refl _)
set_option maxRecDepth 20000 in
set_option maxHeartbeats 1000000 in
theorem walk (a0 : Option Addr) (len0 cap0 : Nat) (z0 : List Int) (a1 : Int) (w : World) (w0 : IsRow .u32 w a0 len0 cap0 z0) (w1 : (Lit.int .i64 a1).wf = true) :
    Calls Try.prog 5 #[.slice a0 len0 cap0, .int .i64 a1] w fun e w' => e = .returned (.bool true) ∧ Below w.heap.size w w' := by
  have AN := hide answers8
  obtain ⟨px, hl, hcp, PX, HS⟩ := lst_in w0
  have hcap : a0 = none → cap0 = 0 := fun e => by
    rcases w0 with ⟨_, _, h, _⟩ | ⟨x, h, _⟩
    · exact h
    · rw [e] at h; cases h
  clear w0 w1
  by_cases h1 : 2000 < len0
  · have i1 : (2000 : Int) < (len0 : Int) := by omega
    clear PX HS hcap
    go_enter Try.func5, Try.ntmps5
    go_wp2_with fail
    refine (unhide AN _).mono ?_
    rintro e w1 ⟨rfl, B1⟩
    have BB := hide B1
    clear B1
    go_wp2
    go_ret
    exact ⟨rfl, unhide BB⟩
  have i1 : ¬ (2000 : Int) < (len0 : Int) := by omega
  by_cases h2 : 10000 < a1
  · clear PX HS hcap h1
    go_enter Try.func5, Try.ntmps5
    go_wp2_with fail
    refine (unhide AN _).mono ?_
    rintro e w1 ⟨rfl, B1⟩
    have BB := hide B1
    clear B1
    go_wp2
    go_ret
    exact ⟨rfl, unhide BB⟩
  have HI := hide (And.intro hl (And.intro hcap (show len0 ≤ 2000 by omega)))
  have P0 := hide PX
  have HSM := hide HS
  have OE := own_empty w 35 1
  clear PX HS hcap hl hcp h1
  go_enter Try.func5, Try.ntmps5
  go_wp2_with (first | (at_builtin; refine app_lst rfl (.tmp 15) (.tmp 16) rfl w.heap.size _ rfl OE w.heap.size a0 len0 cap0 px rfl (unhide HI).1 ((unhide P0).below (bel_a1 w _)) (unhide HI).2.1 (by have := (unhide HI).2.2; omega) (by simp) ?_; intro a' c' wz hcc tk gr; have BC := hide (a1_below gr rfl); have TK := hide tk; have HCC := hide hcc; clear tk gr hcc) | (go_at_call 16; fail))
  by_cases hm : a1 < 1
  · refine (greedy16_none a' len0 c' a1 _ hm).mono ?_
    rintro e w3 ⟨rfl, rfl⟩
    go_wp2_with fail
    refine (unhide AN _).mono ?_
    rintro e w5 ⟨rfl, B5⟩
    have BE := hide (bel_into (unhide BC) B5)
    have TK5 := hide (((unhide TK).below B5).mono B5.size)
    clear B5
    have RF := hide (rfits12 (c := cap0) (c' := 0) (a' := none) ((unhide P0).below (unhide BE)) (sps_nil (B := w.heap.size)) (unhide HI).1.symm (by have := (unhide HI).2.2; omega) (k := 0) rfl (by omega) (unhide BE).size)
    rw [show fitV px 0 [] = true from rfl] at RF
    go_wp2_with fail
    refine (unhide RF).mono ?_
    rintro e w7 ⟨rfl, B7⟩
    have BG := hide (bel_into (unhide BE) B7)
    have PE := hide (pixels11 (n := len0) c' cap0 (((unhide TK5).below B7).mono B7.size) (((unhide P0).below (unhide BG)).mono (unhide BG).size) (unhide HI).1.symm (by have := (unhide HI).1; have := (unhide HI).2.2; omega) (Nat.le_refl _))
    clear B7 RF
    go_wp2_with fail
    refine (unhide PE).mono ?_
    rintro e w9 ⟨rfl, B9⟩
    have BH := hide (bel_into (unhide BG) B9)
    clear B9
    go_wp2
    go_ret
    exact ⟨rfl, unhide BH⟩
  · have GC := hide (greedy16 (c := c') a1 (unhide TK) (unhide HI).1.symm (unhide HSM) (by have := (unhide HI).2.2; omega) (unhide HCC) (Nat.le_refl _) (by omega))
    have hm' : 1 ≤ a1 := by omega
    clear hm
    refine (unhide GC).mono ?_
    rintro e w3 ⟨⟨ss, a3, c3, rfl, sp, hfit, hsl⟩, B3⟩
    have BD := hide (bel_into (unhide BC) B3)
    have TK3 := hide (((unhide TK).below B3).mono B3.size)
    have SP3 := hide sp
    have HF := hide (And.intro hfit hsl)
    clear sp hfit hsl B3 GC
    generalize hK : ss.length = K at *
    have HK := hide hK
    clear hK
    go_wp2_with fail
    refine (unhide AN _).mono ?_
    rintro e w5 ⟨rfl, B5⟩
    have BE := hide (bel_into (unhide BD) B5)
    have TK5 := hide (((unhide TK3).below B5).mono B5.size)
    have RF := hide (rfits12 (c := cap0) (c' := c3) (((unhide P0).below (unhide BE)).mono (unhide BE).size) (((unhide SP3).below B5).mono B5.size) (unhide HI).1.symm (by have := (unhide HI).2.2; omega) (unhide HK).symm (by have := (unhide HF).2; have := (unhide HI).1; have := (unhide HI).2.2; omega) (Nat.le_refl _))
    rw [(unhide HF).1] at RF
    clear B5
    go_wp2_with fail
    refine (unhide RF).mono ?_
    rintro e w7 ⟨rfl, B7⟩
    have BG := hide (bel_into (unhide BE) B7)
    have PE := hide (pixels11 (n := len0) c' cap0 (((unhide TK5).below B7).mono B7.size) (((unhide P0).below (unhide BG)).mono (unhide BG).size) (unhide HI).1.symm (by have := (unhide HI).1; have := (unhide HI).2.2; omega) (Nat.le_refl _))
    clear B7 RF
    go_wp2_with fail
    refine (unhide PE).mono ?_
    rintro e w9 ⟨rfl, B9⟩
    have BH := hide (bel_into (unhide BG) B9)
    clear B9
    go_wp2
    go_ret
    exact ⟨rfl, unhide BH⟩

set_option maxRecDepth 100000 in
theorem lifted (os : Os) (started : os.Started) (H : Type) (enc : TypeId × Value → H) :
    ReturnsInHanded {} Try.checked os 5 .any (Rows.tokenGreedySpec.pre6 enc Try.prog Try.f5 Rows.tokenGreedyRow.domain false) (Rows.tokenGreedySpec.post enc Try.prog Try.f5 false true false false) := by
  refine returnsInHanded_of_change (C := Try.checked) own started (by kernel_rfl) Try.func5
    (ChangeSpec.witness6 (enc := enc) (C := Try.checked) false ⟨#[], #[.slice none 0 0, .int .i64 0], []⟩ 8 (by kernel_rfl) (by kernel_rfl) (by kernel_rfl) (by kernel_rfl)) ?_
  intro W base args ds gs before hval0 hW hcnd _
  have hval : ∀ (j : Nat) t v, Try.f5.params[j]? = some t → args[j]? = some v → Value.okWide Try.prog W .any base t v := hval0
  have hW' := hW
  obtain ⟨p, q, hA0, hV, rfl, hfz, hnd⟩ := hW
  have hA : DataW.TrodAll enc Try.prog W 0 (fun _ => true) true Try.f5.params.toList args.toList ds p := hA0
  rw [Try.params5] at hA hval
  obtain ⟨v0, vs0, d0, ds0, p0, q0, hargs, rfl, rfl, h0, r0⟩ := trodAll_cons hA
  obtain ⟨v1, vs1, d1, ds1, p1, q1, rfl, rfl, rfl, h1, r1⟩ := trodAll_cons r0
  obtain ⟨rfl, rfl, rfl⟩ := trodAll_nil r1
  obtain rfl : args = #[v0, v1] := by cases args; simp_all
  obtain ⟨rfl, rfl⟩ := trodVars_none hV
  obtain ⟨a0, len0, cap0, rfl⟩ := okWide_slice Try.underlying24 (hval 0 24 v0 rfl rfl)
  have k0 := h0
  have lt0 : ∀ x ∈ p0, x.block < W.heap.size := by obtain ⟨m, hm⟩ := k0; exact DataW.trod_lt m _ _ _ hm
  obtain ⟨z0, w0⟩ : ∃ zs, IsRow .u32 W a0 len0 cap0 zs := by
    obtain ⟨fuel, hf⟩ := h0
    rcases open_ints Try.underlying24 Try.underlying35 (by kernel_rfl) hf with ⟨hcs, _⟩ | ⟨x, l, c, zs, hcs, _, hl, hm, hz, _, hcell, hwz⟩
    · simp [Value.cells] at hcs
      obtain ⟨rfl, rfl, rfl⟩ := hcs
      exact ⟨[], .inl ⟨rfl, rfl, rfl, rfl⟩⟩
    · simp [Value.cells] at hcs
      obtain ⟨rfl, rfl, rfl⟩ := hcs
      exact ⟨zs, .inr ⟨_, rfl, hl, hm, by simpa using hz, hcell, hwz⟩⟩
  obtain ⟨a1, rfl, rfl, rfl, w1⟩ := open_int Try.underlying3 (hval 1 3 v1 rfl rfl) h1
  clear hA0 hval0
  refine (walk a0 len0 cap0 z0 a1 W w0 w1).mono fun e W' ⟨he, bel⟩ => ?_
  subst he
  exact ⟨_, rfl, _, _, _, [], _, [], hW', trodAll_mk1 (shut_bool Try.underlying4 _), (trodAll_cons_mk (Below.trod laidOut (by kernel_rfl) (of_decide_eq_true (by kernel_rfl)) k0 bel lt0) (trodAll_cons_mk (shut_int Try.underlying3 w1) trodAll_mk0)), rfl, bel.frame _, fun h => by cases h⟩

theorem over : Rows.tokenGreedyRow.holds Try.pinned (OpenSpec.ofChange Rows.tokenGreedySpec) :=
  OpenClaim.holds_of_wide 5 Try.f5 rfl rfl rfl rfl rfl rfl rfl ⟨rfl, rfl, rfl, rfl, rfl⟩ rfl rfl rfl rfl rfl (by kernel_rfl) Try.func5 (by kernel_rfl)
    (of_decide_eq_true (by kernel_rfl)) (by unfold Func.isWrapper; first | (rw [if_pos (by decide +kernel)]; kernel_rfl) | (rw [if_neg (by decide +kernel)]; exact ⟨rfl, rfl⟩))
    (fun os started H enc _ => lifted os started H enc)

/-- The statement. -/
theorem proved : Rows.TokenGreedySaid := over
#print axioms proved
end Go.Proofs.Ytpkiilnkiidoiaa.tokenGreedy
