/-
  What is proved: the first code is nothing but noughts, the last one nothing but ones, if there are two and more (marquetrylaw04.CodeLow answers true for every input).
  Conditions: none.
-/
import Derived.Test.YthelcnidkehlhaaRows
import Derived.Test.YthelcnidkehlhaaCnt
import Derived.WalkKit
import Derived.ProofKit
import Derived.OpenShut
import Derived.ShutString
import Derived.ChangeOld
import Derived.Below
namespace Go.Proofs.Ythelcnidkehlhaa.codeLow
open Go.ChangeShapes Go.WideShapes Go.ChangeAt Go.RowKit
open Go.Proofs.Ythelcnidkehlhaa.Gnd Go.Proofs.Ythelcnidkehlhaa.Math Go.Proofs.Ythelcnidkehlhaa.Each Go.Proofs.Ythelcnidkehlhaa.One Go.Proofs.Ythelcnidkehlhaa.Chk Go.Proofs.Ythelcnidkehlhaa.Fst Go.Proofs.Ythelcnidkehlhaa.Cod Go.Proofs.Ythelcnidkehlhaa.Ref Go.Proofs.Ythelcnidkehlhaa.Ans Go.Proofs.Ythelcnidkehlhaa.Cnt
open Go.ChangeMaps (open_string shut_string)
set_option linter.unusedVariables false

theorem own : ownKnob Try.prog.godebug = none := by kernel_rfl
theorem laidOut : laidOutB Try.prog = true := by kernel_rfl

/-- WHAT THE WALK IS TOLD OF A SLICE OF INTEGERS THAT CAME IN: it is nil; or it leads to a row of 'cap' cells, the numbers 'zs' (the first 'len' are its elements, the rest its spare room), each fitting its kind. -/
def IsRow (k : IntKind) (w : World) (a : Option Addr) (len cap : Nat) (zs : List Int) : Prop :=
  (a = none ∧ len = 0 ∧ cap = 0 ∧ zs = []) ∨
  ∃ x, a = some x ∧ len ≤ cap ∧ cap ≤ maxLen ∧ zs.length = cap ∧ (∀ i, i < zs.length → w.cell? (x.add i) = some (.int k (zs.getD i 0))) ∧ ∀ n ∈ zs, (Lit.int k n).wf = true


set_option maxRecDepth 20000 in
set_option maxHeartbeats 1000000 in
theorem walk (a0 : Option Addr) (len0 cap0 : Nat) (z0 : List Int) (w : World) (w0 : IsRow .i64 w a0 len0 cap0 z0) :
    Calls Try.prog 6 #[.slice a0 len0 cap0] w fun e w' => e = .returned (.bool true) ∧ Below w.heap.size w w' := by
---
  obtain ⟨src, _⟩ := ints_of_row w0
  generalize (fun k => z0.getD k 0) = c at src
  have SRC := hide src
  obtain ⟨a, cap, e0, _⟩ := src
  cases e0
  clear w0
  by_cases hl : 300 < len0
  · go_enter Try.func6, Try.ntmps6
    go_wp2_with (go_at_call 7; refine (answers7 _).mono ?_; rintro e w1 ⟨rfl, bel⟩; have BEL := hide bel; clear bel)
    go_ret
    exact ⟨rfl, unhide BEL⟩
  · have hl' : decide ((300 : Int) < (len0 : Int)) = false := decide_eq_false (by omega)
    by_cases hz : chk c len0 = 0
    · obtain ⟨hg, _, hkr⟩ := chk_zero hz
      have HG := hide hg
      have HK := hide hkr
      have HZ := hide hz
      clear hg hkr
      go_enter Try.func6, Try.ntmps6
      go_wp2_with fail
      refine (rcheck12 _ len0 c (by omega) _ (unhide SRC)).mono ?_
      rw [hz]
      rintro e w1 ⟨rfl, rfl⟩
      clear hz
      go_wp2_with fail
      refine (one8 _ len0 c (by omega) _ (unhide SRC)).mono ?_
      rintro e w2 ⟨rfl, b2⟩
      generalize (if many c len0 = 1 then (sel c len0 : Int) else 0) = s1
      generalize hone : decide (many c len0 = 1) = one
      have ONE := hide hone
      clear hone
      have B2 := hide b2
      clear b2
      go_wp2_with fail
      refine (codes10 _ len0 c (by omega) (unhide HZ) _ ((unhide SRC).keep (unhide B2))).mono ?_
      rintro e w3 ⟨v3, rfl, ints, b3⟩
      have B3 := hide (show Below w1.heap.size w1 w3 from (unhide B2).trans (b3.mono (unhide B2).size))
      have INT := hide ints
      obtain ⟨a3, cap3, rfl, _⟩ := ints
      clear b3 B2
      go_wp2_with fail
      go_loopw [6, 7, 8] (fun s t i wr => ∃ k : Nat, k ≤ len0 ∧ i = .int .i64 k ∧ s = .int .i64 (num (isLow c len0) k) ∧ t = .int .i64 (num (isHigh c len0) k) ∧ Below w3.heap.size w3 wr) (fun _ _ i _ => len0 - (intOf i).toNat)
      case atStart => exact ⟨0, Nat.zero_le _, rfl, rfl, rfl, Below.refl _ _⟩
      case round =>
        obtain ⟨k, hk, rfl, rfl, rfl, bel⟩ := hrel
        have BEL := hide bel
        have N1 := num_le (isLow c len0) k
        have N2 := num_le (isHigh c len0) k
        by_cases hlt : k < len0
        · have hlt' : (k : Int) < (len0 : Int) := by omega
          have gk := unhide HG k hlt
          obtain ⟨m, hcm⟩ : ∃ m : Nat, c k = (m : Int) := ⟨(c k).toNat, by omega⟩
          have hm15 : m ≤ 15 := by omega
          obtain ⟨p1, p2, p3⟩ := pow15 m hm15
          obtain ⟨_, _, e1, hc1⟩ := ((unhide SRC).keep (unhide B3)).keep bel
          cases e1
          obtain ⟨b, off, rfl, cell1⟩ := hc1 k hlt
          obtain ⟨_, _, e2, hc2⟩ := (unhide INT).keep bel
          cases e2
          obtain ⟨b2, off2, rfl, cell2⟩ := hc2 k hlt
          have CL : m ≠ 0 → cod c len0 k < 2 ^ m := cod_lt (unhide HG) (unhide HK) k hlt m hcm
          have ISL : Hid (isLow c len0 k = decide (m ≠ 0 ∧ cod c len0 k = 0)) := by
            unfold Hid isLow
            rw [hcm]
            simp
          have ISH : Hid (isHigh c len0 k = decide (m ≠ 0 ∧ cod c len0 k + 1 = 2 ^ m)) := by
            unfold Hid isHigh
            rw [hcm]
            simp
          rw [hcm] at cell1
          have cell3 : wr.cell? ⟨b2, off2 + k, none⟩ = some (.int .u32 ((cod c len0 k : Nat) : Int)) := cell2
          have P3 := hide p3
          have PN := hide (show ((2 ^ m : Nat) : Int) = ((2 ^ m : Nat) : Int) from rfl)
          clear cell2 hc1 hc2 hcm gk bel p3
          have CLI := hide CL
          clear CL
          by_cases hm0 : m = 0
          · have NL := hide (num_no (P := isLow c len0) (n := k) (by rw [unhide ISL]; simp [hm0]))
            have NH := hide (num_no (P := isHigh c len0) (n := k) (by rw [unhide ISH]; simp [hm0]))
            subst hm0
            generalize num (isLow c len0) k = nl at *
            generalize num (isHigh c len0) k = nh at *
            generalize cod c len0 k = x at *
            clear p1 p2 hm15
            go_wp2
            go_quiet (fail)
            have B5 := hide (below_drewN (unhide BEL) nq)
            clear BEL cell1 cell3
            generalize wr.drewN nq = w4 at *
            go_wp2
            go_roundw
            case rel => exact ⟨k + 1, by omega, by go_num, by rw [unhide NL] <;> go_num, by rw [unhide NH] <;> go_num, unhide B5⟩
            case measure => simp [intOf]; omega
          · have hmp : 0 < m := by omega
            have hmi : (0 : Int) < (m : Int) := by omega
            have xb : (cod c len0 k : Int) < 32768 := by
              have := unhide CLI hm0
              have := unhide P3
              omega
            by_cases hx : cod c len0 k = 0
            all_goals by_cases hy : cod c len0 k + 1 = 2 ^ m
            · have NL := hide (num_yes (P := isLow c len0) (n := k) (by rw [unhide ISL]; simp [hm0, hx]))
              have NH := hide (num_yes (P := isHigh c len0) (n := k) (by rw [unhide ISH]; simp [hm0, hy]))
              have dx : ((cod c len0 k : Int) == 0) = true := beq_iff_eq.2 (by omega)
              have dy : ((cod c len0 k : Int) == 2 ^ m - 1) = true := beq_iff_eq.2 (by have := unhide P3; omega)
              clear hx hy hm0
              generalize num (isLow c len0) k = nl at *
              generalize num (isHigh c len0) k = nh at *
              generalize cod c len0 k = x at *
              go_wp2
              go_quiet (fail)
              have B5 := hide (below_drewN (unhide BEL) nq)
              clear BEL cell1 cell3
              generalize wr.drewN nq = w4 at *
              go_wp2
              go_roundw
              case rel => exact ⟨k + 1, by omega, by go_num, by rw [unhide NL] <;> go_num, by rw [unhide NH] <;> go_num, unhide B5⟩
              case measure => simp [intOf]; omega
            · have NL := hide (num_yes (P := isLow c len0) (n := k) (by rw [unhide ISL]; simp [hm0, hx]))
              have NH := hide (num_no (P := isHigh c len0) (n := k) (by rw [unhide ISH]; simp [hm0, hy]))
              have dx : ((cod c len0 k : Int) == 0) = true := beq_iff_eq.2 (by omega)
              have dy : ((cod c len0 k : Int) == 2 ^ m - 1) = false := beq_eq_false_iff_ne.2 (by have := unhide P3; omega)
              clear hx hy hm0
              generalize num (isLow c len0) k = nl at *
              generalize num (isHigh c len0) k = nh at *
              generalize cod c len0 k = x at *
              go_wp2
              go_quiet (fail)
              have B5 := hide (below_drewN (unhide BEL) nq)
              clear BEL cell1 cell3
              generalize wr.drewN nq = w4 at *
              go_wp2
              go_roundw
              case rel => exact ⟨k + 1, by omega, by go_num, by rw [unhide NL] <;> go_num, by rw [unhide NH] <;> go_num, unhide B5⟩
              case measure => simp [intOf]; omega
            · have NL := hide (num_no (P := isLow c len0) (n := k) (by rw [unhide ISL]; simp [hm0, hx]))
              have NH := hide (num_yes (P := isHigh c len0) (n := k) (by rw [unhide ISH]; simp [hm0, hy]))
              have dx : ((cod c len0 k : Int) == 0) = false := beq_eq_false_iff_ne.2 (by omega)
              have dy : ((cod c len0 k : Int) == 2 ^ m - 1) = true := beq_iff_eq.2 (by have := unhide P3; omega)
              clear hx hy hm0
              generalize num (isLow c len0) k = nl at *
              generalize num (isHigh c len0) k = nh at *
              generalize cod c len0 k = x at *
              go_wp2
              go_quiet (fail)
              have B5 := hide (below_drewN (unhide BEL) nq)
              clear BEL cell1 cell3
              generalize wr.drewN nq = w4 at *
              go_wp2
              go_roundw
              case rel => exact ⟨k + 1, by omega, by go_num, by rw [unhide NL] <;> go_num, by rw [unhide NH] <;> go_num, unhide B5⟩
              case measure => simp [intOf]; omega
            · have NL := hide (num_no (P := isLow c len0) (n := k) (by rw [unhide ISL]; simp [hm0, hx]))
              have NH := hide (num_no (P := isHigh c len0) (n := k) (by rw [unhide ISH]; simp [hm0, hy]))
              have dx : ((cod c len0 k : Int) == 0) = false := beq_eq_false_iff_ne.2 (by omega)
              have dy : ((cod c len0 k : Int) == 2 ^ m - 1) = false := beq_eq_false_iff_ne.2 (by have := unhide P3; omega)
              clear hx hy hm0
              generalize num (isLow c len0) k = nl at *
              generalize num (isHigh c len0) k = nh at *
              generalize cod c len0 k = x at *
              go_wp2
              go_quiet (fail)
              have B5 := hide (below_drewN (unhide BEL) nq)
              clear BEL cell1 cell3
              generalize wr.drewN nq = w4 at *
              go_wp2
              go_roundw
              case rel => exact ⟨k + 1, by omega, by go_num, by rw [unhide NL] <;> go_num, by rw [unhide NH] <;> go_num, unhide B5⟩
              case measure => simp [intOf]; omega
        · obtain rfl : k = len0 := by omega
          have L1 := low_one (unhide HZ)
          have B5 := hide bel
          cases one with
          | true =>
            rw [L1]
            clear bel L1 N1 N2
            generalize num (isHigh c k) k = nh at *
            go_wp2_with (go_at_call 7; refine (answers7 _).mono ?_; rintro e w5 ⟨rfl, b6⟩; have B6 := hide b6; clear b6)
            go_ret
            exact ⟨rfl, (unhide B3).trans ((unhide B5).trans ((unhide B6).mono (unhide B5).size) |>.mono (unhide B3).size)⟩
          | false =>
            have H1 := high_one (unhide HZ) (of_decide_eq_false (unhide ONE))
            rw [L1, H1]
            clear bel L1 H1 N1 N2
            go_wp2_with (go_at_call 7; refine (answers7 _).mono ?_; rintro e w5 ⟨rfl, b6⟩; have B6 := hide b6; clear b6)
            go_ret
            exact ⟨rfl, (unhide B3).trans ((unhide B5).trans ((unhide B6).mono (unhide B5).size) |>.mono (unhide B3).size)⟩
    · have hz' : (chk c len0 != 0) = true := bne_iff_ne.2 hz
      go_enter Try.func6, Try.ntmps6
      go_wp2_with (first | (go_at_call 12; refine (rcheck12 _ len0 c (by omega) _ (unhide SRC)).mono ?_; rintro e w1 ⟨rfl, rfl⟩) | (go_at_call 7; refine (answers7 _).mono ?_; rintro e w2 ⟨rfl, bel⟩; have BEL := hide bel; clear bel))
      go_ret
      exact ⟨rfl, unhide BEL⟩

/-! ### THE ROW's STEP: WRITTEN OUT: LEAVE IT -/
set_option maxRecDepth 100000 in
theorem lifted (os : Os) (started : os.Started) (H : Type) (enc : TypeId × Value → H) :
    ReturnsInHanded {} Try.checked os 6 .any (Rows.codeLowSpec.pre6 enc Try.prog Try.f6 Rows.codeLowRow.domain false) (Rows.codeLowSpec.post enc Try.prog Try.f6 false true false false) := by
  refine returnsInHanded_of_change (C := Try.checked) own started (by kernel_rfl) Try.func6
    (ChangeSpec.witness6 (enc := enc) (C := Try.checked) false ⟨#[], #[.slice none 0 0], []⟩ 8 (by kernel_rfl) (by kernel_rfl) (by kernel_rfl) (by kernel_rfl)) ?_
  intro W base args ds gs before hval0 hW hcnd _
  have hval : ∀ (j : Nat) t v, Try.f6.params[j]? = some t → args[j]? = some v → Value.okWide Try.prog W .any base t v := hval0
  have hW' := hW
  obtain ⟨p, q, hA0, hV, rfl, hfz, hnd⟩ := hW
  have hA : DataW.TrodAll enc Try.prog W 0 (fun _ => true) true Try.f6.params.toList args.toList ds p := hA0
  rw [Try.params6] at hA hval
  obtain ⟨v0, vs0, d0, ds0, p0, q0, hargs, rfl, rfl, h0, r0⟩ := trodAll_cons hA
  obtain ⟨rfl, rfl, rfl⟩ := trodAll_nil r0
  obtain rfl : args = #[v0] := by cases args; simp_all
  obtain ⟨rfl, rfl⟩ := trodVars_none hV
  obtain ⟨a0, len0, cap0, rfl⟩ := okWide_slice Try.underlying22 (hval 0 22 v0 rfl rfl)
  have k0 := h0
  have lt0 : ∀ x ∈ p0, x.block < W.heap.size := by obtain ⟨m, hm⟩ := k0; exact DataW.trod_lt m _ _ _ hm
  obtain ⟨z0, w0⟩ : ∃ zs, IsRow .i64 W a0 len0 cap0 zs := by
    obtain ⟨fuel, hf⟩ := h0
    rcases open_ints Try.underlying22 Try.underlying3 (by kernel_rfl) hf with ⟨hcs, _⟩ | ⟨x, l, c, zs, hcs, _, hl, hm, hz, _, hcell, hwz⟩
    · simp [Value.cells] at hcs
      obtain ⟨rfl, rfl, rfl⟩ := hcs
      exact ⟨[], .inl ⟨rfl, rfl, rfl, rfl⟩⟩
    · simp [Value.cells] at hcs
      obtain ⟨rfl, rfl, rfl⟩ := hcs
      exact ⟨zs, .inr ⟨_, rfl, hl, hm, by simpa using hz, hcell, hwz⟩⟩
  clear hA0 hval0
  refine (walk a0 len0 cap0 z0 W w0).mono fun e W' ⟨he, bel⟩ => ?_
  subst he
  exact ⟨_, rfl, _, _, _, [], _, [], hW', trodAll_mk1 (shut_bool Try.underlying4 _), (trodAll_cons_mk (Below.trod laidOut (by kernel_rfl) (of_decide_eq_true (by kernel_rfl)) k0 bel lt0) trodAll_mk0), rfl, bel.frame _, fun h => by cases h⟩

theorem over : Rows.codeLowRow.holds Try.pinned (OpenSpec.ofChange Rows.codeLowSpec) :=
  OpenClaim.holds_of_wide 6 Try.f6 rfl rfl rfl rfl rfl rfl rfl ⟨rfl, rfl, rfl, rfl, rfl⟩ rfl rfl rfl rfl rfl (by kernel_rfl) Try.func6 (by kernel_rfl)
    (of_decide_eq_true (by kernel_rfl)) (by unfold Func.isWrapper; first | (rw [if_pos (by decide +kernel)]; kernel_rfl) | (rw [if_neg (by decide +kernel)]; exact ⟨rfl, rfl⟩))
    (fun os started H enc _ => lifted os started H enc)

/-- ████ THE STATEMENT ████ -/
theorem proved : Rows.CodeLowSaid := over
#print axioms proved
end Go.Proofs.Ythelcnidkehlhaa.codeLow
