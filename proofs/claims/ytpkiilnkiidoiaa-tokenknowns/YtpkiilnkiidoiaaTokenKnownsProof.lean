/-
  What is proved: for every colour, number of pixels and number of bits the Go function TokenKnowns of the statements of layer 17 returns true.
  Conditions: none.
-/
import Derived.Test.YtpkiilnkiidoiaaRows
import Derived.Test.YtpkiilnkiidoiaaKAns
import Derived.Test.YtpkiilnkiidoiaaKFin
import Derived.WalkKit
import Derived.ProofKit
import Derived.OpenShut
import Derived.ShutString
import Derived.ChangeOld
import Derived.Below
import Derived.Deep.Grids
import Derived.Lib.SmallJoins
namespace Go.Proofs.Ytpkiilnkiidoiaa.tokenKnowns
open Go.ChangeShapes Go.WideShapes Go.ChangeAt Go.RowKit
open Go.Proofs.Ytpkiilnkiidoiaa.Core Go.Proofs.Ytpkiilnkiidoiaa.CNum Go.Proofs.Ytpkiilnkiidoiaa.KNum Go.Proofs.Ytpkiilnkiidoiaa.KMem Go.Proofs.Ytpkiilnkiidoiaa.KInp Go.Proofs.Ytpkiilnkiidoiaa.KExp Go.Proofs.Ytpkiilnkiidoiaa.KCv2 Go.Proofs.Ytpkiilnkiidoiaa.KAns Go.Proofs.Ytpkiilnkiidoiaa.KFin
open Go.ChangeMaps (open_string shut_string)
set_option linter.unusedVariables false

theorem own : ownKnob Try.prog.godebug = none := by kernel_rfl
theorem laidOut : laidOutB Try.prog = true := by kernel_rfl

/-- A slice of integers that came in: nil, or a row of cells, each fitting its kind. -/
def IsRow (k : IntKind) (w : World) (a : Option Addr) (len cap : Nat) (zs : List Int) : Prop :=
  (a = none ∧ len = 0 ∧ cap = 0 ∧ zs = []) ∨
  ∃ x, a = some x ∧ len ≤ cap ∧ cap ≤ maxLen ∧ zs.length = cap ∧ (∀ i, i < zs.length → w.cell? (x.add i) = some (.int k (zs.getD i 0))) ∧ ∀ n ∈ zs, (Lit.int k n).wf = true
/-- A slice of bools that came in. -/
def IsBools (w : World) (a : Option Addr) (len cap : Nat) (B : Nat → Bool) : Prop :=
  (a = none ∧ len = 0 ∧ cap = 0) ∨ ∃ x, a = some x ∧ len ≤ cap ∧ cap ≤ maxLen ∧ ∀ i, i < cap → w.cell? (x.add i) = some (.bool (B i))
theorem rep_snoc (p i : Nat) : List.replicate i p ++ [p] = List.replicate (i + 1) p := List.replicate_succ'.symm
/-- The pixels gathered so far. -/
structure Gap (w : World) (p i : Nat) (v : Value) (wr : World) : Prop where
  own : wr.ownsRow w.heap.size 35 1 v i (cl (List.replicate i p))
  bel : Below w.heap.size w wr
theorem Gap.next {w wr w1 : World} {p i : Nat} {v v1 : Value} {o : Obj} (h : Gap w p i v wr) (own : w1.ownsRow w.heap.size 35 1 v1 (i + 1) (cl (List.replicate i p) ++ [.int .u32 (p : Int)])) (gr : (wr.alloc o).grownBy w1 v.ownBlock) : Gap w p (i + 1) v1 w1 :=
  ⟨by rw [← rep_snoc, cl_snoc]; exact own, (h.bel.alloc h.bel.size o).grown gr (by have := h.bel.size; simp; omega) (fun k e => (h.own.lt k e).1)⟩
theorem big_mod (x y : Nat) : (x : Int).tmod (y : Int) = ((x % y : Nat) : Int) := by
  rw [Int.tmod_eq_emod_of_nonneg (by omega)]; simp
set_option maxRecDepth 20000 in
set_option maxHeartbeats 1000000 in
theorem walk (a0 : Int) (a1 : Int) (a2 : Int) (w : World) (w0 : (Lit.int .u32 a0).wf = true) (w1 : (Lit.int .u8 a1).wf = true) (w2 : (Lit.int .u8 a2).wf = true) :
    Calls Try.prog 6 #[.int .u32 a0, .int .u8 a1, .int .u8 a2] w fun e w' => e = .returned (.bool true) ∧ Below w.heap.size w w' := by
  have AN := hide answers8
  have hp := bounds_u32 w0
  have hn := bounds_u8 w1
  have hc := bounds_u8 w2
  obtain ⟨p, rfl⟩ := Int.eq_ofNat_of_zero_le hp.1
  obtain ⟨n, rfl⟩ := Int.eq_ofNat_of_zero_le hn.1
  obtain ⟨cc, rfl⟩ := Int.eq_ofNat_of_zero_le hc.1
  obtain ⟨q1, hq1⟩ : ∃ q, q = cc % 11 := ⟨_, rfl⟩
  obtain ⟨q2, hq2⟩ : ∃ q, q = n % 50 := ⟨_, rfl⟩
  have r1 : (cc : Int).tmod 11 = (q1 : Int) := by rw [hq1, Int.tmod_eq_emod_of_nonneg (by omega)]; omega
  have r2 : (n : Int).tmod 50 = (q2 : Int) := by rw [hq2, Int.tmod_eq_emod_of_nonneg (by omega)]; omega
  have r3 : (q1 : Int) < 11 := by omega
  have r4 : (q2 : Int) < 50 := by omega
  obtain ⟨C, hC⟩ : ∃ C, C = q1 + 1 := ⟨_, rfl⟩
  obtain ⟨K, hK⟩ : ∃ K, K = q2 + 2 := ⟨_, rfl⟩
  have r5 : (q1 : Int) + 1 = (C : Int) := by omega
  have r6 : (q2 : Int) + 2 = (K : Int) := by omega
  have HC := hide (show 1 ≤ C ∧ C ≤ 11 ∧ 2 ≤ K ∧ K ≤ 51 by omega)
  have r7 : (K : Int) ≤ 51 := by omega
  obtain ⟨i0, hi0, hz0, hz1, hz2⟩ := info_parts info35
  have KA := hide (fun i h1 h2 => known_at (c := C) (k := K) (i := i) (p := p) (unhide HC).1 h2 h1)
  have KZ := hide (known_zero (c := C) (k := K) (p := p) (unhide HC).1 (by have := (unhide HC).2.2.1; omega))
  clear w0 w1 w2 hp hn hc hq1 hq2 hC hK
  go_enter Try.func6, Try.ntmps6
  go_wp2
  go_loopw [9, 10] (fun x y wr => ∃ (i : Nat) (v : Value), x = v ∧ y = .int .i64 i ∧ i ≤ K ∧ Gap w p i v wr) (fun _ y _ => K - (intOf y).toNat)
  case atStart => exact ⟨0, _, rfl, rfl, by omega, World.ownsRow_nil _ _ _ _, Below.refl _ _⟩
  case round =>
    obtain ⟨i, v, hx, rfl, hi, G⟩ := hrel
    obtain ⟨av, cv, rfl, hcv⟩ := own_shape G.own
    subst hx
    have GG := hide G
    have GB := hide G.bel
    clear G
    by_cases hlt : i < K
    · have hlt' : (i : Int) < (K : Int) := by omega
      go_wp2_with (first | (at_builtin; refine wpList_append_own_at _ rfl (.tmp 27) (.tmp 29) 24 rfl w.heap.size 35 i0 (.int .u32 0) 1 4 Try.underlying24 hi0 hz0 hz1 hz2 rfl (by decide) _ i (cl (List.replicate i p)) rfl ((unhide GG).own.alloc _) ⟨wr.heap.size, 0, none⟩ 1 1 [.int .u32 p] rfl rfl (cell_one_new _ _ _) (one_one _ _) (by unfold maxLen; omega) (by omega) (by have := (unhide GB).size; simp; omega) ?_; intro v1 w1 own1 gr1 _ _; obtain ⟨a1, k1, rfl, _⟩ := own_shape own1; have G1 := hide ((unhide GG).next own1 gr1); clear own1 gr1) | go_in)
      go_roundw
      case rel => exact ⟨i + 1, _, rfl, by go_num, by omega, unhide G1⟩
      case measure => simp [intOf]; omega
    · have hlt' : ¬ (i : Int) < (K : Int) := by omega
      obtain rfl : K = i := by omega
      have hlr : (List.replicate K p).length = K := List.length_replicate
      have LP := hide (show Lst wr.heap.size wr av (List.replicate K p) by
        have h := (unhide GG).own
        rw [← hlr] at h
        simp only [List.length_replicate] at h
        have h2 : wr.ownsRow w.heap.size 35 1 (.slice av K cv) (List.replicate K p).length (cl (List.replicate K p)) := by rw [hlr]; exact h
        obtain ⟨a3, c3, e3, _, l3⟩ := own_lst h2
        rw [hlr] at e3
        cases e3
        exact l3)
      have CV := hide (cover13 (c := cv) (c' := 0) C (unhide LP) (sps_nil (a := none)) (n := K) hlr.symm hcv (by have := (unhide HC).2.2.2; omega) (k := 0) rfl (by omega) (Nat.le_refl _) (unhide HC).2.1 rfl)
      clear hlr GG hi hlt
      go_wp2_with fail
      refine (unhide CV).mono ?_
      rintro e w3 ⟨⟨a3, c3, he, tk⟩, B3⟩
      rw [known_len] at he
      subst he
      have TK := hide tk
      have B4 := hide ((unhide GB).trans (B3.mono (unhide GB).size))
      clear tk B3 CV
      have ne1 : ((K : Int) != (K : Int)) = false := by simp
      go_wp2
      generalize wr = wo at *
      go_loopw [13] (fun x wr => ∃ j : Nat, x = .int .i64 j ∧ 1 ≤ j ∧ j ≤ K ∧ Below w3.heap.size w3 wr) (fun x _ => K - (intOf x).toNat)
      case atStart => exact ⟨1, rfl, by omega, by have := (unhide HC).2.2.1; omega, Below.refl _ _⟩
      case round =>
        obtain ⟨j, rfl, hj1, hj, b5⟩ := hrel
        have B5 := hide b5
        clear b5
        by_cases hlt : j < K
        · have hlt' : (j : Int) < (K : Int) := by omega
          obtain ⟨bx, ox, rfl, hbx, d0, _, _, d3, _⟩ := ((unhide TK).below (unhide B5)) j _ (unhide KA j hj1 hlt)
          obtain ⟨bx', ox', ea, _, _, _, _, f3, _⟩ := ((unhide TK).below (unhide B5)) 1 _ (unhide KA 1 (Nat.le_refl _) (by omega))
          cases ea
          simp only at d0 d3 f3
          have f4 : wr.cell? ⟨bx, ox + 5 + 3, none⟩ = some (.int .i64 (sl p C : Nat)) := f3
          have f5 : wr.cell? ⟨bx, ox + 8, none⟩ = some (.int .i64 (sl p C : Nat)) := f3
          have k1 : (1 : Int) < (K : Int) := by omega
          have hne : (((sl p C : Nat) : Int) != ((sl p C : Nat) : Int)) = false := by simp
          clear f3
          generalize sl p C = S at *
          go_wp2
          go_quiet (fail)
          go_wp2
          go_roundw
          case rel => exact ⟨j + 1, by go_num, by omega, by omega, bel_drN (unhide B5) _⟩
          case measure => simp [intOf]; omega
        · have hlt' : ¬ (j : Int) < (K : Int) := by omega
          have B6 := hide ((unhide B4).trans ((unhide B5).mono (unhide B4).size))
          go_wp2_with fail
          refine (unhide AN _).mono ?_
          rintro e w9 ⟨rfl, B9⟩
          have BZ := hide (bel_into (unhide B6) B9)
          have B59 := (unhide B5).trans (B9.mono (unhide B5).size)
          obtain ⟨bx, ox, rfl, hbx, d0, _⟩ := ((unhide TK).below B59) 0 _ (unhide KZ)
          clear B9 B59
          have k0 : (0 : Int) < (K : Int) := by have := (unhide HC).2.2.1; omega
          rw [Nat.zero_mul, Nat.add_zero] at d0
          by_cases hp0 : p = 0
          · subst hp0
            rw [if_pos rfl] at d0
            simp only at d0
            go_wp2
            go_ret
            exact ⟨rfl, unhide BZ⟩
          · rw [if_neg hp0] at d0
            simp only at d0
            go_wp2
            go_ret
            exact ⟨rfl, unhide BZ⟩

set_option maxRecDepth 100000 in
theorem lifted (os : Os) (started : os.Started) (H : Type) (enc : TypeId × Value → H) :
    ReturnsInHanded {} Try.checked os 6 .any (Rows.tokenKnownsSpec.pre6 enc Try.prog Try.f6 Rows.tokenKnownsRow.domain false) (Rows.tokenKnownsSpec.post enc Try.prog Try.f6 false true false false) := by
  refine returnsInHanded_of_change (C := Try.checked) own started (by kernel_rfl) Try.func6
    (ChangeSpec.witness6 (enc := enc) (C := Try.checked) false ⟨#[], #[.int .u32 0, .int .u8 0, .int .u8 0], []⟩ 8 (by kernel_rfl) (by kernel_rfl) (by kernel_rfl) (by kernel_rfl)) ?_
  intro W base args ds gs before hval0 hW hcnd _
  have hval : ∀ (j : Nat) t v, Try.f6.params[j]? = some t → args[j]? = some v → Value.okWide Try.prog W .any base t v := hval0
  have hW' := hW
  obtain ⟨p, q, hA0, hV, rfl, hfz, hnd⟩ := hW
  have hA : DataW.TrodAll enc Try.prog W 0 (fun _ => true) true Try.f6.params.toList args.toList ds p := hA0
  rw [Try.params6] at hA hval
  obtain ⟨v0, vs0, d0, ds0, p0, q0, hargs, rfl, rfl, h0, r0⟩ := trodAll_cons hA
  obtain ⟨v1, vs1, d1, ds1, p1, q1, rfl, rfl, rfl, h1, r1⟩ := trodAll_cons r0
  obtain ⟨v2, vs2, d2, ds2, p2, q2, rfl, rfl, rfl, h2, r2⟩ := trodAll_cons r1
  obtain ⟨rfl, rfl, rfl⟩ := trodAll_nil r2
  obtain rfl : args = #[v0, v1, v2] := by cases args; simp_all
  obtain ⟨rfl, rfl⟩ := trodVars_none hV
  obtain ⟨a0, rfl, rfl, rfl, w0⟩ := open_int Try.underlying35 (hval 0 35 v0 rfl rfl) h0
  obtain ⟨a1, rfl, rfl, rfl, w1⟩ := open_int Try.underlying5 (hval 1 5 v1 rfl rfl) h1
  obtain ⟨a2, rfl, rfl, rfl, w2⟩ := open_int Try.underlying5 (hval 2 5 v2 rfl rfl) h2
  clear hA0 hval0
  refine (walk a0 a1 a2 W w0 w1 w2).mono fun e W' ⟨he, bel⟩ => ?_
  subst he
  exact ⟨_, rfl, _, _, _, [], _, [], hW', trodAll_mk1 (shut_bool Try.underlying4 _), (trodAll_cons_mk (shut_int Try.underlying35 w0) (trodAll_cons_mk (shut_int Try.underlying5 w1) (trodAll_cons_mk (shut_int Try.underlying5 w2) trodAll_mk0))), rfl, bel.frame _, fun h => by cases h⟩

theorem over : Rows.tokenKnownsRow.holds Try.pinned (OpenSpec.ofChange Rows.tokenKnownsSpec) :=
  OpenClaim.holds_of_wide 6 Try.f6 rfl rfl rfl rfl rfl rfl rfl ⟨rfl, rfl, rfl, rfl, rfl⟩ rfl rfl rfl rfl rfl (by kernel_rfl) Try.func6 (by kernel_rfl)
    (of_decide_eq_true (by kernel_rfl)) (by unfold Func.isWrapper; first | (rw [if_pos (by decide +kernel)]; kernel_rfl) | (rw [if_neg (by decide +kernel)]; exact ⟨rfl, rfl⟩))
    (fun os started H enc _ => lifted os started H enc)

/-- The statement. -/
theorem proved : Rows.TokenKnownsSaid := over
#print axioms proved
end Go.Proofs.Ytpkiilnkiidoiaa.tokenKnowns
