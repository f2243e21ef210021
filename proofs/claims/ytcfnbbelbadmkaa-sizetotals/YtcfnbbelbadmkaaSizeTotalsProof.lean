/-
  What is proved: size.Total of any two slices of integers is the sum of their products, of as many as both have, as it runs round; and the program answers at all.
  Conditions: none.
-/
import Derived.Test.YtcfnbbelbadmkaaRows
import Derived.Test.YtcfnbbelbadmkaaAns
import Derived.WalkKit
import Derived.ProofKit
import Derived.OpenShut
import Derived.ShutString
import Derived.ChangeOld
import Derived.Below
namespace Go.Proofs.Ytcfnbbelbadmkaa.sizeTotals
open Go.ChangeShapes Go.WideShapes Go.ChangeAt Go.RowKit
open Go.Proofs.Ytcfnbbelbadmkaa.Core Go.Proofs.Ytcfnbbelbadmkaa.Gnd Go.Proofs.Ytcfnbbelbadmkaa.Mrg Go.Proofs.Ytcfnbbelbadmkaa.Totl Go.Proofs.Ytcfnbbelbadmkaa.Ans
open Go.ChangeMaps (open_string shut_string)
set_option linter.unusedVariables false

theorem own : ownKnob Try.prog.godebug = none := by kernel_rfl
theorem laidOut : laidOutB Try.prog = true := by kernel_rfl

/-- WHAT THE WALK IS TOLD OF A SLICE OF INTEGERS THAT CAME IN: it is nil; or it leads to a row of 'cap' cells, the numbers 'zs' (the first 'len' are its elements, the rest its spare room), each fitting its kind. -/
def IsRow (k : IntKind) (w : World) (a : Option Addr) (len cap : Nat) (zs : List Int) : Prop :=
  (a = none ∧ len = 0 ∧ cap = 0 ∧ zs = []) ∨
  ∃ x, a = some x ∧ len ≤ cap ∧ cap ≤ maxLen ∧ zs.length = cap ∧ (∀ i, i < zs.length → w.cell? (x.add i) = some (.int k (zs.getD i 0))) ∧ ∀ n ∈ zs, (Lit.int k n).wf = true

theorem tot_succ (ca cb : Nat → Int) (n : Nat) : tot ca cb (n + 1) = wrap64 (tot ca cb n + wrap64 (ca n * cb n)) := rfl
set_option maxRecDepth 20000 in
set_option maxHeartbeats 1000000 in
theorem walk (a0 : Option Addr) (len0 cap0 : Nat) (z0 : List Int) (a1 : Option Addr) (len1 cap1 : Nat) (z1 : List Int) (w : World) (w0 : IsRow .i64 w a0 len0 cap0 z0) (w1 : IsRow .i64 w a1 len1 cap1 z1) :
    Calls Try.prog 4 #[.slice a0 len0 cap0, .slice a1 len1 cap1] w fun e w' => e = .returned (.bool true) ∧ Below w.heap.size w w' := by
  obtain ⟨s0, _⟩ := ints_of_row w0
  obtain ⟨s1, _⟩ := ints_of_row w1
  clear w0 w1
  generalize (fun k => z0.getD k 0) = c0 at *
  generalize (fun k => z1.getD k 0) = c1 at *
  have S0 := hide s0
  have S1 := hide s1
  obtain ⟨b0, q0, e0, h0⟩ := s0
  cases e0
  obtain ⟨b1, q1, e1, h1⟩ := s1
  cases e1
  have H0 := hide h0
  have H1 := hide h1
  clear h0 h1
  by_cases g0 : 1000 < len0
  · have g0' : (1000 : Int) < (len0 : Int) := by omega
    go_enter Try.func4, Try.ntmps4
    go_wp2_with (go_at_call 8; refine (ans8 _).mono ?_; rintro e w2 ⟨rfl, b2⟩; have B2 := hide b2; clear b2)
    go_ret
    exact ⟨rfl, unhide B2⟩
  · by_cases g1 : 1000 < len1
    · have g0' : decide ((1000 : Int) < (len0 : Int)) = false := decide_eq_false (by omega)
      have g1' : (1000 : Int) < (len1 : Int) := by omega
      go_enter Try.func4, Try.ntmps4
      go_wp2_with (go_at_call 8; refine (ans8 _).mono ?_; rintro e w2 ⟨rfl, b2⟩; have B2 := hide b2; clear b2)
      go_ret
      exact ⟨rfl, unhide B2⟩
    · have g0' : decide ((1000 : Int) < (len0 : Int)) = false := decide_eq_false (by omega)
      have g1' : decide ((1000 : Int) < (len1 : Int)) = false := decide_eq_false (by omega)
      go_enter Try.func4, Try.ntmps4
      go_wp2
      go_loopw [5, 6] (fun x y wr => ∃ k : Nat, k ≤ len0 ∧ k ≤ len1 ∧ x = .int .i64 (tot c0 c1 k) ∧ y = .int .i64 k ∧ Below w.heap.size w wr) (fun _ y _ => len0 - (intOf y).toNat)
      case atStart => exact ⟨0, Nat.zero_le _, Nat.zero_le _, rfl, rfl, Below.refl _ w⟩
      case round =>
        obtain ⟨k, k0, k1, rfl, rfl, bel⟩ := hrel
        have BEL := hide bel
        clear bel
        by_cases l0 : k < len0
        · have l0' : (k : Int) < (len0 : Int) := by omega
          by_cases l1 : k < len1
          · have l1' : (k : Int) < (len1 : Int) := by omega
            obtain ⟨x0, o0, rfl, d0⟩ := unhide H0 k l0
            obtain ⟨x1, o1, rfl, d1⟩ := unhide H1 k l1
            have f0 := ((unhide BEL).cell (p := ⟨x0, o0 + k, none⟩) (lt_of_cell d0)).trans d0
            have f1 := ((unhide BEL).cell (p := ⟨x1, o1 + k, none⟩) (lt_of_cell d1)).trans d1
            have TS := hide (tot_succ c0 c1 k)
            clear d0 d1
            generalize tot c0 c1 k = t at *
            generalize c0 k = y0 at *
            generalize c1 k = y1 at *
            go_wp2
            go_quiet ((fail))
            rename_i nq
            have BQ := hide (below_drewN (unhide BEL) nq)
            clear f0 f1
            generalize wr.drewN nq = wq at *
            go_wp2
            go_roundw
            case rel => exact ⟨k + 1, by omega, by omega, by rw [unhide TS], by go_num, unhide BQ⟩
            case measure => simp [intOf]; omega
          · have l1' : ¬ (k : Int) < (len1 : Int) := by omega
            have CT := hide (fun w' (hb : Below w.heap.size w w') => tot11 _ _ len0 len1 c0 c1 w' (by omega) (by omega) ((unhide S0).keep hb) ((unhide S1).keep hb))
            rw [show min len0 len1 = k by omega] at CT
            go_wp2_with fail
            refine (ans8 _).mono ?_
            rintro e w2 ⟨rfl, b2⟩
            have B2 := hide ((unhide BEL).trans (b2.mono (unhide BEL).size))
            clear b2
            go_wp2_with fail
            refine (unhide CT w2 (unhide B2)).mono ?_
            rintro e w3 ⟨rfl, b3⟩
            have B3 := hide ((unhide B2).trans (b3.mono (unhide B2).size))
            clear b3
            go_wp2
            go_ret
            exact ⟨by simp, unhide B3⟩
        · have l0' : ¬ (k : Int) < (len0 : Int) := by omega
          have CT := hide (fun w' (hb : Below w.heap.size w w') => tot11 _ _ len0 len1 c0 c1 w' (by omega) (by omega) ((unhide S0).keep hb) ((unhide S1).keep hb))
          rw [show min len0 len1 = k by omega] at CT
          go_wp2_with fail
          refine (ans8 _).mono ?_
          rintro e w2 ⟨rfl, b2⟩
          have B2 := hide ((unhide BEL).trans (b2.mono (unhide BEL).size))
          clear b2
          go_wp2_with fail
          refine (unhide CT w2 (unhide B2)).mono ?_
          rintro e w3 ⟨rfl, b3⟩
          have B3 := hide ((unhide B2).trans (b3.mono (unhide B2).size))
          clear b3
          go_wp2
          go_ret
          exact ⟨by simp, unhide B3⟩

/-! ### THE ROW's STEP: WRITTEN OUT: LEAVE IT -/
set_option maxRecDepth 100000 in
theorem lifted (os : Os) (started : os.Started) (H : Type) (enc : TypeId × Value → H) :
    ReturnsInHanded {} Try.checked os 4 .any (Rows.sizeTotalsSpec.pre6 enc Try.prog Try.f4 Rows.sizeTotalsRow.domain false) (Rows.sizeTotalsSpec.post enc Try.prog Try.f4 false true false false) := by
  refine returnsInHanded_of_change (C := Try.checked) own started (by kernel_rfl) Try.func4
    (ChangeSpec.witness6 (enc := enc) (C := Try.checked) false ⟨#[], #[.slice none 0 0, .slice none 0 0], []⟩ 8 (by kernel_rfl) (by kernel_rfl) (by kernel_rfl) (by kernel_rfl)) ?_
  intro W base args ds gs before hval0 hW hcnd _
  have hval : ∀ (j : Nat) t v, Try.f4.params[j]? = some t → args[j]? = some v → Value.okWide Try.prog W .any base t v := hval0
  have hW' := hW
  obtain ⟨p, q, hA0, hV, rfl, hfz, hnd⟩ := hW
  have hA : DataW.TrodAll enc Try.prog W 0 (fun _ => true) true Try.f4.params.toList args.toList ds p := hA0
  rw [Try.params4] at hA hval
  obtain ⟨v0, vs0, d0, ds0, p0, q0, hargs, rfl, rfl, h0, r0⟩ := trodAll_cons hA
  obtain ⟨v1, vs1, d1, ds1, p1, q1, rfl, rfl, rfl, h1, r1⟩ := trodAll_cons r0
  obtain ⟨rfl, rfl, rfl⟩ := trodAll_nil r1
  obtain rfl : args = #[v0, v1] := by cases args; simp_all
  obtain ⟨rfl, rfl⟩ := trodVars_none hV
  obtain ⟨a0, len0, cap0, rfl⟩ := okWide_slice Try.underlying22 (hval 0 22 v0 rfl rfl)
  have k0 := h0
  have lt0 : ∀ x ∈ p0, x.block < W.heap.size := by obtain ⟨m, hm⟩ := k0; exact DataW.trod_lt m _ _ _ hm
  obtain ⟨z0, w0⟩ : ∃ zs, IsRow .i64 W a0 len0 cap0 zs := by
    obtain ⟨fuel, hf⟩ := h0
    rcases open_ints Try.underlying22 Try.underlying3 (by kernel_rfl) hf with ⟨hcs, _⟩ | ⟨x, l, c, zs, hcs, _, hl, hm, hz, _, hcell, hwz⟩
    · simp [Value.cells] at hcs
      obtain ⟨rfl, rfl, rfl⟩ := hcs
      exact ⟨[], .inl ⟨rfl, rfl, rfl, rfl⟩⟩
    · simp [Value.cells] at hcs
      obtain ⟨rfl, rfl, rfl⟩ := hcs
      exact ⟨zs, .inr ⟨_, rfl, hl, hm, by simpa using hz, hcell, hwz⟩⟩
  obtain ⟨a1, len1, cap1, rfl⟩ := okWide_slice Try.underlying22 (hval 1 22 v1 rfl rfl)
  have k1 := h1
  have lt1 : ∀ x ∈ p1, x.block < W.heap.size := by obtain ⟨m, hm⟩ := k1; exact DataW.trod_lt m _ _ _ hm
  obtain ⟨z1, w1⟩ : ∃ zs, IsRow .i64 W a1 len1 cap1 zs := by
    obtain ⟨fuel, hf⟩ := h1
    rcases open_ints Try.underlying22 Try.underlying3 (by kernel_rfl) hf with ⟨hcs, _⟩ | ⟨x, l, c, zs, hcs, _, hl, hm, hz, _, hcell, hwz⟩
    · simp [Value.cells] at hcs
      obtain ⟨rfl, rfl, rfl⟩ := hcs
      exact ⟨[], .inl ⟨rfl, rfl, rfl, rfl⟩⟩
    · simp [Value.cells] at hcs
      obtain ⟨rfl, rfl, rfl⟩ := hcs
      exact ⟨zs, .inr ⟨_, rfl, hl, hm, by simpa using hz, hcell, hwz⟩⟩
  clear hA0 hval0
  refine (walk a0 len0 cap0 z0 a1 len1 cap1 z1 W w0 w1).mono fun e W' ⟨he, bel⟩ => ?_
  subst he
  exact ⟨_, rfl, _, _, _, [], _, [], hW', trodAll_mk1 (shut_bool Try.underlying4 _), (trodAll_cons_mk (Below.trod laidOut (by kernel_rfl) (of_decide_eq_true (by kernel_rfl)) k0 bel lt0) (trodAll_cons_mk (Below.trod laidOut (by kernel_rfl) (of_decide_eq_true (by kernel_rfl)) k1 bel lt1) trodAll_mk0)), rfl, bel.frame _, fun h => by cases h⟩

theorem over : Rows.sizeTotalsRow.holds Try.pinned (OpenSpec.ofChange Rows.sizeTotalsSpec) :=
  OpenClaim.holds_of_wide 4 Try.f4 rfl rfl rfl rfl rfl rfl rfl ⟨rfl, rfl, rfl, rfl, rfl⟩ rfl rfl rfl rfl rfl (by kernel_rfl) Try.func4 (by kernel_rfl)
    (of_decide_eq_true (by kernel_rfl)) (by unfold Func.isWrapper; first | (rw [if_pos (by decide +kernel)]; kernel_rfl) | (rw [if_neg (by decide +kernel)]; exact ⟨rfl, rfl⟩))
    (fun os started H enc _ => lifted os started H enc)

/-- ████ THE STATEMENT ████ -/
theorem proved : Rows.SizeTotalsSaid := over
#print axioms proved
end Go.Proofs.Ytcfnbbelbadmkaa.sizeTotals
