/-
  What is proved: which lengths are complete, which symbol is the only one, and what the codes are (marquetrylaw04.CodeChecks answers true for every input).
  Conditions: none.
-/
import Derived.Test.YthelcnidkehlhaaRows
import Derived.Test.YthelcnidkehlhaaApp
import Derived.WalkKit
import Derived.ProofKit
import Derived.OpenShut
import Derived.ShutString
import Derived.ChangeOld
import Derived.Below
namespace Go.Proofs.Ythelcnidkehlhaa.codeChecks
open Go.ChangeShapes Go.WideShapes Go.ChangeAt Go.RowKit
open Go.Proofs.Ythelcnidkehlhaa.Gnd Go.Proofs.Ythelcnidkehlhaa.Math Go.Proofs.Ythelcnidkehlhaa.Each Go.Proofs.Ythelcnidkehlhaa.One Go.Proofs.Ythelcnidkehlhaa.Chk Go.Proofs.Ythelcnidkehlhaa.Fst Go.Proofs.Ythelcnidkehlhaa.Cod Go.Proofs.Ythelcnidkehlhaa.Ref Go.Proofs.Ythelcnidkehlhaa.Ans Go.Proofs.Ythelcnidkehlhaa.Cnt Go.Proofs.Ythelcnidkehlhaa.Spl Go.Proofs.Ythelcnidkehlhaa.Rcd Go.Proofs.Ythelcnidkehlhaa.App
open Go.ChangeMaps (open_string shut_string)
set_option linter.unusedVariables false

theorem own : ownKnob Try.prog.godebug = none := by kernel_rfl
theorem laidOut : laidOutB Try.prog = true := by kernel_rfl

/-- WHAT THE WALK IS TOLD OF A SLICE OF INTEGERS THAT CAME IN: it is nil; or it leads to a row of 'cap' cells, the numbers 'zs' (the first 'len' are its elements, the rest its spare room), each fitting its kind. -/
def IsRow (k : IntKind) (w : World) (a : Option Addr) (len cap : Nat) (zs : List Int) : Prop :=
  (a = none ∧ len = 0 ∧ cap = 0 ∧ zs = []) ∨
  ∃ x, a = some x ∧ len ≤ cap ∧ cap ≤ maxLen ∧ zs.length = cap ∧ (∀ i, i < zs.length → w.cell? (x.add i) = some (.int k (zs.getD i 0))) ∧ ∀ n ∈ zs, (Lit.int k n).wf = true


set_option maxRecDepth 20000 in
set_option maxHeartbeats 1000000 in
theorem walk (a0 : Option Addr) (len0 cap0 : Nat) (z0 : List Int) (w : World) (w0 : IsRow .i64 w a0 len0 cap0 z0) :
    Calls Try.prog 3 #[.slice a0 len0 cap0] w fun e w' => e = .returned (.bool true) ∧ Below w.heap.size w w' := by
---
  obtain ⟨src, _⟩ := ints_of_row w0
  have FROM := from_of_row w0
  generalize (fun k => z0.getD k 0) = c at src FROM
  have SRC := hide src
  have FRO := hide FROM
  obtain ⟨a, cap, e0, _⟩ := src
  cases e0
  clear w0 FROM
  by_cases hl : 3000 < len0
  · have hl' : (3000 : Int) < (len0 : Int) := by omega
    go_enter Try.func3, Try.ntmps3
    go_wp2_with (go_at_call 7; refine (answers7 _).mono ?_; rintro e w1 ⟨rfl, bel⟩; have BEL := hide bel; clear bel)
    go_ret
    exact ⟨rfl, unhide BEL⟩
  · have hl' : decide ((3000 : Int) < (len0 : Int)) = false := decide_eq_false (by omega)
    have sz1 : Hid (∀ w', Below w.heap.size w w' → w.heap.size ≤ w'.heap.size) := fun _ h => h.size
    go_enter Try.func3, Try.ntmps3
    go_wp2_with fail
    refine (one8 _ len0 c (by omega) _ (unhide SRC)).mono ?_
    rintro e w2 ⟨rfl, b2⟩
    have B2 := hide b2
    clear b2
    generalize hs1 : (if many c len0 = 1 then (sel c len0 : Int) else 0) = s1
    generalize hok : decide (many c len0 = 1) = ok
    have S1 := hide hs1
    have OK := hide hok
    clear hs1 hok
    go_wp2_with fail
    refine (rone9 _ len0 c (by omega) _ ((unhide SRC).keep (unhide B2))).mono ?_
    rw [unhide S1, unhide OK]
    rintro e w3 ⟨rfl, rfl⟩
    have z2 := (unhide B2).size
    by_cases hz : chk c len0 = 0
    · obtain ⟨hg, _, hkr⟩ := chk_zero hz
      have HG := hide hg
      have HK := hide hkr
      have HZ := hide hz
      clear hg hkr hz
      go_wp2_with (first | (at_builtin; refine app_both rfl (.tmp 24) (.tmp 25) rfl w.heap.size _ rfl (empty_own _ _ z2) _ len0 c rfl ((unhide FRO).keep ((unhide B2).alloc z2 _)) (by omega) (by simp; omega) ?_; intro v4 w4 own4 grow4; have bel4 : Below w.heap.size w w4 := ((unhide B2).alloc z2 _).grown grow4 (by simp; omega) (fun j hj => by cases hj; exact z2); have I4 := hide (own_ints own4); have B4 := hide bel4; clear own4 bel4 grow4) | fail)
      refine (codes10 _ len0 c (by omega) (unhide HZ) _ (unhide I4)).mono ?_
      rintro e w5 ⟨v5, rfl, ints, b5⟩
      have B5 := hide ((unhide B4).trans (b5.mono (unhide B4).size))
      have IN5 := hide ints
      obtain ⟨a5, cap5, rfl, _⟩ := ints
      clear b5 B4 I4
      go_wp2_with fail
      refine (answers7 _).mono ?_
      rintro e w6 ⟨rfl, b6⟩
      have B6 := hide ((unhide B5).trans (b6.mono (unhide B5).size))
      have IN6 := hide ((unhide IN5).keep b6)
      clear b6 B5 IN5
      go_wp2_with fail
      refine (check11 _ len0 c (by omega) _ ((unhide SRC).keep (unhide B6))).mono ?_
      rw [unhide HZ]
      rintro e w7 ⟨rfl, b7⟩
      have B7 := hide ((unhide B6).trans (b7.mono (unhide B6).size))
      have IN7 := hide ((unhide IN6).keep b7)
      clear b7 B6 IN6
      go_wp2_with fail
      refine (rcheck12 _ len0 c (by omega) _ ((unhide SRC).keep (unhide B7))).mono ?_
      rw [unhide HZ]
      rintro e w8 ⟨rfl, rfl⟩
      go_wp2_with fail
      refine (rcheck12 _ len0 c (by omega) _ ((unhide SRC).keep (unhide B7))).mono ?_
      rw [unhide HZ]
      rintro e w9 ⟨rfl, rfl⟩
      go_wp2_with fail
      refine (rcodes13 _ len0 c (by omega) (unhide HG) (unhide HK) _ ((unhide SRC).keep (unhide B7))).mono ?_
      rintro e wA ⟨vA, rfl, ints, bA⟩
      have BA := hide ((unhide B7).trans (bA.mono (unhide B7).size))
      have INA := hide ((unhide IN7).keep bA)
      have DNA := hide ints
      have SRA := hide ((unhide SRC).keep (unhide BA))
      obtain ⟨aA, capA, rfl, _⟩ := ints
      clear bA B7 IN7
      go_wp2_with fail
      go_loopw [9] (fun i wr => ∃ k : Nat, k ≤ len0 ∧ i = .int .i64 k ∧ Below wA.heap.size wA wr) (fun i _ => len0 - (intOf i).toNat)
      case atStart => exact ⟨0, Nat.zero_le _, rfl, Below.refl _ _⟩
      case round =>
        obtain ⟨k, hk, rfl, bel⟩ := hrel
        have BEL := hide bel
        by_cases hlt : k < len0
        · have hlt' : (k : Int) < (len0 : Int) := by omega
          have gk := unhide HG k hlt
          obtain ⟨m, hcm⟩ : ∃ m : Nat, c k = (m : Int) := ⟨(c k).toNat, by omega⟩
          obtain ⟨_, _, e1, hc1⟩ := (unhide SRA).keep bel
          cases e1
          obtain ⟨b, off, rfl, cell1⟩ := hc1 k hlt
          obtain ⟨_, _, e2, hc2⟩ := (unhide INA).keep bel
          cases e2
          obtain ⟨b2, off2, rfl, cell2⟩ := hc2 k hlt
          obtain ⟨_, _, e3, hc3⟩ := (unhide DNA).keep bel
          cases e3
          obtain ⟨b3, off3, rfl, cell3⟩ := hc3 k hlt
          have p2 : wr.cell? ⟨b2, off2 + k, none⟩ = some (.int .u32 ((cod c len0 k : Nat) : Int)) := cell2
          have p3 : wr.cell? ⟨b3, off3 + k, none⟩ = some (.int .u32 ((cod c len0 k : Nat) : Int)) := cell3
          rw [hcm] at cell1
          clear hc1 hc2 hc3 cell2 cell3 gk bel
          by_cases hm0 : m = 0
          · have x0 : cod c len0 k = 0 := by
              unfold cod
              rw [if_pos (by rw [hcm, hm0]; rfl)]
            rw [x0] at p2 p3
            subst hm0
            clear x0 hcm
            go_wp2
            go_quiet (fail)
            have B9 := hide (below_drewN (unhide BEL) nq)
            clear BEL cell1 p2 p3
            generalize wr.drewN nq = w9 at *
            go_wp2
            go_roundw
            case rel => exact ⟨k + 1, by omega, by go_num, unhide B9⟩
            case measure => simp [intOf]; omega
          · have hmp : 0 < m := by omega
            have hmi : (0 : Int) < (m : Int) := by omega
            have dm : ((m : Int) == 0) = false := beq_eq_false_iff_ne.2 (by omega)
            generalize cod c len0 k = x at *
            clear hcm
            go_wp2
            go_quiet (fail)
            have B9 := hide (below_drewN (unhide BEL) nq)
            clear BEL cell1 p2 p3
            generalize wr.drewN nq = w9 at *
            go_wp2
            go_roundw
            case rel => exact ⟨k + 1, by omega, by go_num, unhide B9⟩
            case measure => simp [intOf]; omega
        · obtain rfl : k = len0 := by omega
          clear bel
          go_wp2
          go_ret
          exact ⟨rfl, (unhide BA).trans ((unhide BEL).mono (unhide BA).size)⟩
    · have hz' : (chk c len0 != 0) = true := bne_iff_ne.2 hz
      go_wp2_with (first | (at_builtin; refine app_both rfl (.tmp 24) (.tmp 25) rfl w.heap.size _ rfl (empty_own _ _ z2) _ len0 c rfl ((unhide FRO).keep ((unhide B2).alloc z2 _)) (by omega) (by simp; omega) ?_; intro v4 w4 own4 grow4; have bel4 : Below w.heap.size w w4 := ((unhide B2).alloc z2 _).grown grow4 (by simp; omega) (fun j hj => by cases hj; exact z2); have I4 := hide (own_ints own4); have B4 := hide bel4; clear own4 bel4 grow4) | fail)
      refine (codes_no _ len0 c (by omega) hz _ (unhide I4)).mono ?_
      rintro e w5 ⟨rfl, b5⟩
      have B5 := hide ((unhide B4).trans (b5.mono (unhide B4).size))
      clear b5 B4 I4
      go_wp2_with fail
      refine (answers7 _).mono ?_
      rintro e w6 ⟨rfl, b6⟩
      have B6 := hide ((unhide B5).trans (b6.mono (unhide B5).size))
      clear b6 B5
      go_wp2_with fail
      refine (check11 _ len0 c (by omega) _ ((unhide SRC).keep (unhide B6))).mono ?_
      rintro e w7 ⟨rfl, b7⟩
      have B7 := hide ((unhide B6).trans (b7.mono (unhide B6).size))
      clear b7 B6
      go_wp2_with fail
      refine (rcheck12 _ len0 c (by omega) _ ((unhide SRC).keep (unhide B7))).mono ?_
      rintro e w8 ⟨rfl, rfl⟩
      go_wp2_with fail
      refine (rcheck12 _ len0 c (by omega) _ ((unhide SRC).keep (unhide B7))).mono ?_
      rintro e w9 ⟨rfl, rfl⟩
      go_wp2
      go_ret
      exact ⟨rfl, unhide B7⟩

/-! ### THE ROW's STEP: WRITTEN OUT: LEAVE IT -/
set_option maxRecDepth 100000 in
theorem lifted (os : Os) (started : os.Started) (H : Type) (enc : TypeId × Value → H) :
    ReturnsInHanded {} Try.checked os 3 .any (Rows.codeChecksSpec.pre6 enc Try.prog Try.f3 Rows.codeChecksRow.domain false) (Rows.codeChecksSpec.post enc Try.prog Try.f3 false true false false) := by
  refine returnsInHanded_of_change (C := Try.checked) own started (by kernel_rfl) Try.func3
    (ChangeSpec.witness6 (enc := enc) (C := Try.checked) false ⟨#[], #[.slice none 0 0], []⟩ 8 (by kernel_rfl) (by kernel_rfl) (by kernel_rfl) (by kernel_rfl)) ?_
  intro W base args ds gs before hval0 hW hcnd _
  have hval : ∀ (j : Nat) t v, Try.f3.params[j]? = some t → args[j]? = some v → Value.okWide Try.prog W .any base t v := hval0
  have hW' := hW
  obtain ⟨p, q, hA0, hV, rfl, hfz, hnd⟩ := hW
  have hA : DataW.TrodAll enc Try.prog W 0 (fun _ => true) true Try.f3.params.toList args.toList ds p := hA0
  rw [Try.params3] at hA hval
  obtain ⟨v0, vs0, d0, ds0, p0, q0, hargs, rfl, rfl, h0, r0⟩ := trodAll_cons hA
  obtain ⟨rfl, rfl, rfl⟩ := trodAll_nil r0
  obtain rfl : args = #[v0] := by cases args; simp_all
  obtain ⟨rfl, rfl⟩ := trodVars_none hV
  obtain ⟨a0, len0, cap0, rfl⟩ := okWide_slice Try.underlying22 (hval 0 22 v0 rfl rfl)
  have k0 := h0
  have lt0 : ∀ x ∈ p0, x.block < W.heap.size := by obtain ⟨m, hm⟩ := k0; exact DataW.trod_lt m _ _ _ hm
  obtain ⟨z0, w0⟩ : ∃ zs, IsRow .i64 W a0 len0 cap0 zs := by
    obtain ⟨fuel, hf⟩ := h0
    rcases open_ints Try.underlying22 Try.underlying3 (by kernel_rfl) hf with ⟨hcs, _⟩ | ⟨x, l, c, zs, hcs, _, hl, hm, hz, _, hcell, hwz⟩
    · simp [Value.cells] at hcs
      obtain ⟨rfl, rfl, rfl⟩ := hcs
      exact ⟨[], .inl ⟨rfl, rfl, rfl, rfl⟩⟩
    · simp [Value.cells] at hcs
      obtain ⟨rfl, rfl, rfl⟩ := hcs
      exact ⟨zs, .inr ⟨_, rfl, hl, hm, by simpa using hz, hcell, hwz⟩⟩
  clear hA0 hval0
  refine (walk a0 len0 cap0 z0 W w0).mono fun e W' ⟨he, bel⟩ => ?_
  subst he
  exact ⟨_, rfl, _, _, _, [], _, [], hW', trodAll_mk1 (shut_bool Try.underlying4 _), (trodAll_cons_mk (Below.trod laidOut (by kernel_rfl) (of_decide_eq_true (by kernel_rfl)) k0 bel lt0) trodAll_mk0), rfl, bel.frame _, fun h => by cases h⟩

theorem over : Rows.codeChecksRow.holds Try.pinned (OpenSpec.ofChange Rows.codeChecksSpec) :=
  OpenClaim.holds_of_wide 3 Try.f3 rfl rfl rfl rfl rfl rfl rfl ⟨rfl, rfl, rfl, rfl, rfl⟩ rfl rfl rfl rfl rfl (by kernel_rfl) Try.func3 (by kernel_rfl)
    (of_decide_eq_true (by kernel_rfl)) (by unfold Func.isWrapper; first | (rw [if_pos (by decide +kernel)]; kernel_rfl) | (rw [if_neg (by decide +kernel)]; exact ⟨rfl, rfl⟩))
    (fun os started H enc _ => lifted os started H enc)

/-- ████ THE STATEMENT ████ -/
theorem proved : Rows.CodeChecksSaid := over
#print axioms proved
end Go.Proofs.Ythelcnidkehlhaa.codeChecks
