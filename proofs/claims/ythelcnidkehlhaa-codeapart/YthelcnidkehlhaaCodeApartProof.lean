/-
  What is proved: no code is the beginning of another one, and each has as many bits as its length (marquetrylaw04.CodeApart answers true for every input).
  Conditions: none.
-/
import Derived.Test.YthelcnidkehlhaaRows
import Derived.Test.YthelcnidkehlhaaCnt
import Derived.WalkKit
import Derived.ProofKit
import Derived.OpenShut
import Derived.ShutString
import Derived.ChangeOld
import Derived.Below
namespace Go.Proofs.Ythelcnidkehlhaa.codeApart
open Go.ChangeShapes Go.WideShapes Go.ChangeAt Go.RowKit
open Go.Proofs.Ythelcnidkehlhaa.Gnd Go.Proofs.Ythelcnidkehlhaa.Math Go.Proofs.Ythelcnidkehlhaa.Each Go.Proofs.Ythelcnidkehlhaa.One Go.Proofs.Ythelcnidkehlhaa.Chk Go.Proofs.Ythelcnidkehlhaa.Fst Go.Proofs.Ythelcnidkehlhaa.Cod Go.Proofs.Ythelcnidkehlhaa.Ref Go.Proofs.Ythelcnidkehlhaa.Ans Go.Proofs.Ythelcnidkehlhaa.Cnt
open Go.ChangeMaps (open_string shut_string)
set_option linter.unusedVariables false

theorem own : ownKnob Try.prog.godebug = none := by kernel_rfl
theorem laidOut : laidOutB Try.prog = true := by kernel_rfl

/-- WHAT THE WALK IS TOLD OF A SLICE OF INTEGERS THAT CAME IN: it is nil; or it leads to a row of 'cap' cells, the numbers 'zs' (the first 'len' are its elements, the rest its spare room), each fitting its kind. -/
def IsRow (k : IntKind) (w : World) (a : Option Addr) (len cap : Nat) (zs : List Int) : Prop :=
  (a = none ∧ len = 0 ∧ cap = 0 ∧ zs = []) ∨
  ∃ x, a = some x ∧ len ≤ cap ∧ cap ≤ maxLen ∧ zs.length = cap ∧ (∀ i, i < zs.length → w.cell? (x.add i) = some (.int k (zs.getD i 0))) ∧ ∀ n ∈ zs, (Lit.int k n).wf = true


set_option maxRecDepth 20000 in
set_option maxHeartbeats 1000000 in
theorem walk (a0 : Option Addr) (len0 cap0 : Nat) (z0 : List Int) (w : World) (w0 : IsRow .i64 w a0 len0 cap0 z0) :
    Calls Try.prog 4 #[.slice a0 len0 cap0] w fun e w' => e = .returned (.bool true) ∧ Below w.heap.size w w' := by
---
  obtain ⟨src, _⟩ := ints_of_row w0
  generalize (fun k => z0.getD k 0) = c at src
  have SRC := hide src
  obtain ⟨a, cap, e0, _⟩ := src
  cases e0
  clear w0
  by_cases hl : 60 < len0
  · have hl' : (60 : Int) < (len0 : Int) := by omega
    go_enter Try.func4, Try.ntmps4
    go_wp2_with (go_at_call 7; refine (answers7 _).mono ?_; rintro e w1 ⟨rfl, bel⟩; have BEL := hide bel; clear bel)
    go_ret
    exact ⟨rfl, unhide BEL⟩
  · have hl' : decide ((60 : Int) < (len0 : Int)) = false := decide_eq_false (by omega)
    by_cases hz : chk c len0 = 0
    · obtain ⟨hg, _, hkr⟩ := chk_zero hz
      have HG := hide hg
      have HK := hide hkr
      have HZ := hide hz
      clear hg hkr
      go_enter Try.func4, Try.ntmps4
      go_wp2_with fail
      refine (rcheck12 _ len0 c (by omega) _ (unhide SRC)).mono ?_
      rw [hz]
      rintro e w1 ⟨rfl, rfl⟩
      clear hz
      go_wp2_with fail
      refine (codes10 _ len0 c (by omega) (unhide HZ) _ (unhide SRC)).mono ?_
      rintro e w3 ⟨v3, rfl, ints, b3⟩
      have B3 := hide b3
      have INT := hide ints
      obtain ⟨a3, cap3, rfl, _⟩ := ints
      clear b3
      go_wp2_with fail
      refine (one8 _ len0 c (by omega) _ ((unhide SRC).keep (unhide B3))).mono ?_
      rintro e w4 ⟨rfl, b4⟩
      generalize (if many c len0 = 1 then (sel c len0 : Int) else 0) = s1
      generalize decide (many c len0 = 1) = one
      have B4 := hide (show Below w1.heap.size w1 w4 from (unhide B3).trans (b4.mono (unhide B3).size))
      have IN4 := hide ((unhide INT).keep b4)
      have SR4 := hide ((unhide SRC).keep (unhide B4))
      clear b4 B3 INT SRC
      go_wp2_with fail
      go_loopw [6] (fun i wr => ∃ k : Nat, k ≤ len0 ∧ i = .int .i64 k ∧ Below w4.heap.size w4 wr) (fun i _ => len0 - (intOf i).toNat)
      case atStart => exact ⟨0, Nat.zero_le _, rfl, Below.refl _ _⟩
      case round =>
        obtain ⟨i, hi, rfl, bel⟩ := hrel
        have BEL := hide bel
        by_cases hlt : i < len0
        · have hlt' : (i : Int) < (len0 : Int) := by omega
          have gi := unhide HG i hlt
          obtain ⟨m, hcm⟩ : ∃ m : Nat, c i = (m : Int) := ⟨(c i).toNat, by omega⟩
          have hm15 : m ≤ 15 := by omega
          have HCM := hide hcm
          obtain ⟨_, _, e1, hc1⟩ := unhide SR4
          cases e1
          obtain ⟨b, off, rfl, _⟩ := hc1 i hlt
          obtain ⟨_, _, e2, hc2⟩ := unhide IN4
          cases e2
          obtain ⟨b2, off2, rfl, _⟩ := hc2 i hlt
          have F1 : Hid (∀ w', Below w4.heap.size w4 w' → ∀ q, q < len0 → w'.cell? ⟨b, off + q, none⟩ = some (.int .i64 (c q))) := fun w' h q hq => by
            obtain ⟨_, _, e1, h2⟩ := hc1 q hq
            cases e1
            exact (h.cell (p := ⟨b, off + q, none⟩) (lt_of_cell h2)).trans h2
          have F2 : Hid (∀ w', Below w4.heap.size w4 w' → ∀ q, q < len0 → w'.cell? ⟨b2, off2 + q, none⟩ = some (.int .u32 ((cod c len0 q : Nat) : Int))) := fun w' h q hq => by
            obtain ⟨_, _, e1, h2⟩ := hc2 q hq
            cases e1
            exact (h.cell (p := ⟨b2, off2 + q, none⟩) (lt_of_cell h2)).trans h2
          have cell1 := unhide F1 wr bel i hlt
          have cell2 := unhide F2 wr bel i hlt
          rw [hcm] at cell1
          clear hc1 hc2 hcm gi bel
          have CLT := hide (fun h0 => cod_lt (unhide HG) (unhide HK) i hlt m (unhide HCM) h0)
          by_cases hm0 : m = 0
          · subst hm0
            go_wp2
            go_quiet (fail)
            have B5 := hide (below_drewN (unhide BEL) nq)
            clear BEL cell1 cell2
            generalize wr.drewN nq = w5 at *
            go_wp2
            cases one with
            | true =>
              go_loopw [7] (fun j wi => ∃ k : Nat, k ≤ len0 ∧ j = .int .i64 k ∧ Below w4.heap.size w4 wi) (fun j _ => len0 - (intOf j).toNat)
              case atStart => exact ⟨0, Nat.zero_le _, rfl, unhide B5⟩
              case round =>
                obtain ⟨k, hk, rfl, bel⟩ := hrel
                have B6 := hide bel
                clear bel B5
                by_cases hkl : k < len0
                · have hkl' : (k : Int) < (len0 : Int) := by omega
                  go_wp2
                  go_roundw
                  case rel => exact ⟨i + 1, by omega, by go_num, unhide B6⟩
                  case measure => simp [intOf]; omega
                · have hkl' : ¬ (k : Int) < (len0 : Int) := by omega
                  go_wp2
                  go_roundw
                  case rel => exact ⟨i + 1, by omega, by go_num, unhide B6⟩
                  case measure => simp [intOf]; omega
            | false =>
              go_loopw [7] (fun j wi => ∃ k : Nat, k ≤ len0 ∧ j = .int .i64 k ∧ Below w4.heap.size w4 wi) (fun j _ => len0 - (intOf j).toNat)
              case atStart => exact ⟨0, Nat.zero_le _, rfl, unhide B5⟩
              case round =>
                obtain ⟨k, hk, rfl, bel⟩ := hrel
                have B6 := hide bel
                by_cases hkl : k < len0
                · have hkl' : (k : Int) < (len0 : Int) := by omega
                  have gk := unhide HG k hkl
                  obtain ⟨n, hcn⟩ : ∃ n : Nat, c k = (n : Int) := ⟨(c k).toNat, by omega⟩
                  have hn15 : n ≤ 15 := by omega
                  have p1 := unhide F1 wr bel i hlt
                  have p2 := unhide F2 wr bel i hlt
                  have p3 := unhide F1 wr bel k hkl
                  have p4 := unhide F2 wr bel k hkl
                  rw [unhide HCM] at p1
                  rw [hcn] at p3
                  have HCN := hide hcn
                  clear gk hcn bel B5
                  by_cases hki : k = i
                  · subst hki
                    have dk : (((k : Nat) : Int) != ((k : Nat) : Int)) = false := by simp
                    go_wp2
                    go_quiet (fail)
                    have B7 := hide (below_drewN (unhide B6) nq)
                    clear B6 p1 p2 p3 p4
                    generalize wr.drewN nq = w6 at *
                    go_wp2
                    go_roundw
                    case rel => exact ⟨k + 1, by omega, by go_num, unhide B7⟩
                    case measure => simp [intOf]; omega
                  · have dk : (((k : Nat) : Int) != ((i : Nat) : Int)) = true := bne_iff_ne.2 (by omega)
                    go_wp2
                    go_quiet (fail)
                    have B7 := hide (below_drewN (unhide B6) nq)
                    clear B6 p1 p2 p3 p4
                    generalize wr.drewN nq = w6 at *
                    go_wp2
                    go_roundw
                    case rel => exact ⟨k + 1, by omega, by go_num, unhide B7⟩
                    case measure => simp [intOf]; omega
                · have hkl' : ¬ (k : Int) < (len0 : Int) := by omega
                  clear bel B5
                  go_wp2
                  go_roundw
                  case rel => exact ⟨i + 1, by omega, by go_num, unhide B6⟩
                  case measure => simp [intOf]; omega
          · have hmp : 0 < m := by omega
            have hmi : (0 : Int) < (m : Int) := by omega
            have q0 : (cod c len0 i : Int) / 2 ^ m = 0 := by
              have h1 := unhide CLT hm0
              have h2 := (pow15 m hm15).2.2
              rw [← h2, ← Int.natCast_ediv, Nat.div_eq_of_lt h1]
              rfl
            go_wp2
            go_quiet (fail)
            have B5 := hide (below_drewN (unhide BEL) nq)
            clear BEL cell1 cell2
            generalize wr.drewN nq = w5 at *
            go_wp2
            cases one with
            | true =>
              go_loopw [7] (fun j wi => ∃ k : Nat, k ≤ len0 ∧ j = .int .i64 k ∧ Below w4.heap.size w4 wi) (fun j _ => len0 - (intOf j).toNat)
              case atStart => exact ⟨0, Nat.zero_le _, rfl, unhide B5⟩
              case round =>
                obtain ⟨k, hk, rfl, bel⟩ := hrel
                have B6 := hide bel
                clear bel B5
                by_cases hkl : k < len0
                · have hkl' : (k : Int) < (len0 : Int) := by omega
                  go_wp2
                  go_roundw
                  case rel => exact ⟨i + 1, by omega, by go_num, unhide B6⟩
                  case measure => simp [intOf]; omega
                · have hkl' : ¬ (k : Int) < (len0 : Int) := by omega
                  go_wp2
                  go_roundw
                  case rel => exact ⟨i + 1, by omega, by go_num, unhide B6⟩
                  case measure => simp [intOf]; omega
            | false =>
              go_loopw [7] (fun j wi => ∃ k : Nat, k ≤ len0 ∧ j = .int .i64 k ∧ Below w4.heap.size w4 wi) (fun j _ => len0 - (intOf j).toNat)
              case atStart => exact ⟨0, Nat.zero_le _, rfl, unhide B5⟩
              case round =>
                obtain ⟨k, hk, rfl, bel⟩ := hrel
                have B6 := hide bel
                by_cases hkl : k < len0
                · have hkl' : (k : Int) < (len0 : Int) := by omega
                  have gk := unhide HG k hkl
                  obtain ⟨n, hcn⟩ : ∃ n : Nat, c k = (n : Int) := ⟨(c k).toNat, by omega⟩
                  have hn15 : n ≤ 15 := by omega
                  have p1 := unhide F1 wr bel i hlt
                  have p2 := unhide F2 wr bel i hlt
                  have p3 := unhide F1 wr bel k hkl
                  have p4 := unhide F2 wr bel k hkl
                  rw [unhide HCM] at p1
                  rw [hcn] at p3
                  have HCN := hide hcn
                  clear gk hcn bel B5
                  by_cases hki : k = i
                  · subst hki
                    have dk : (((k : Nat) : Int) != ((k : Nat) : Int)) = false := by simp
                    go_wp2
                    go_quiet (fail)
                    have B7 := hide (below_drewN (unhide B6) nq)
                    clear B6 p1 p2 p3 p4
                    generalize wr.drewN nq = w6 at *
                    go_wp2
                    go_roundw
                    case rel => exact ⟨k + 1, by omega, by go_num, unhide B7⟩
                    case measure => simp [intOf]; omega
                  · have dk : (((k : Nat) : Int) != ((i : Nat) : Int)) = true := bne_iff_ne.2 (by omega)
                    have APA := hide (fun h => apart (unhide HG) hlt hkl hki m n (unhide HCM) (unhide HCN) hm0 h)
                    generalize cod c len0 i = x at *
                    generalize cod c len0 k = y at *
                    by_cases hnm : n < m
                    · have dn : decide (m ≤ n) = false := decide_eq_false (by omega)
                      clear APA
                      go_wp2
                      go_quiet (fail)
                      have B7 := hide (below_drewN (unhide B6) nq)
                      clear B6 p1 p2 p3 p4
                      generalize wr.drewN nq = w6 at *
                      go_wp2
                      go_roundw
                      case rel => exact ⟨k + 1, by omega, by go_num, unhide B7⟩
                      case measure => simp [intOf]; omega
                    · obtain ⟨d, rfl⟩ : ∃ d, n = m + d := ⟨n - m, by omega⟩
                      have dn : decide ((m : Int) ≤ (m : Int) + (d : Int)) = true := decide_eq_true (by omega)
                      have hy : (((y : Nat) : Int) / 2 ^ d == ((x : Nat) : Int)) = false := by
                        have h1 := unhide APA (by omega)
                        rw [Nat.add_sub_cancel_left] at h1
                        have h2 := (pow15 d (by omega)).2.2
                        rw [← h2, ← Int.natCast_ediv]
                        exact beq_eq_false_iff_ne.2 (fun h => h1 (by omega))
                      clear APA
                      go_wp2
                      go_quiet (fail)
                      have B7 := hide (below_drewN (unhide B6) nq)
                      clear B6 p1 p2 p3 p4
                      generalize wr.drewN nq = w6 at *
                      go_wp2
                      go_roundw
                      case rel => exact ⟨k + 1, by omega, by go_num, unhide B7⟩
                      case measure => simp [intOf]; omega
                · have hkl' : ¬ (k : Int) < (len0 : Int) := by omega
                  clear bel B5
                  go_wp2
                  go_roundw
                  case rel => exact ⟨i + 1, by omega, by go_num, unhide B6⟩
                  case measure => simp [intOf]; omega
        · obtain rfl : i = len0 := by omega
          clear bel
          go_wp2_with (go_at_call 7; refine (answers7 _).mono ?_; rintro e w5 ⟨rfl, b6⟩; have B6 := hide b6; clear b6)
          go_ret
          exact ⟨rfl, (unhide B4).trans ((unhide BEL).trans ((unhide B6).mono (unhide BEL).size) |>.mono (unhide B4).size)⟩
    · have hz' : (chk c len0 != 0) = true := bne_iff_ne.2 hz
      go_enter Try.func4, Try.ntmps4
      go_wp2_with (first | (go_at_call 12; refine (rcheck12 _ len0 c (by omega) _ (unhide SRC)).mono ?_; rintro e w1 ⟨rfl, rfl⟩) | (go_at_call 7; refine (answers7 _).mono ?_; rintro e w2 ⟨rfl, bel⟩; have BEL := hide bel; clear bel))
      go_ret
      exact ⟨rfl, unhide BEL⟩

/-! ### THE ROW's STEP: WRITTEN OUT: LEAVE IT -/
set_option maxRecDepth 100000 in
theorem lifted (os : Os) (started : os.Started) (H : Type) (enc : TypeId × Value → H) :
    ReturnsInHanded {} Try.checked os 4 .any (Rows.codeApartSpec.pre6 enc Try.prog Try.f4 Rows.codeApartRow.domain false) (Rows.codeApartSpec.post enc Try.prog Try.f4 false true false false) := by
  refine returnsInHanded_of_change (C := Try.checked) own started (by kernel_rfl) Try.func4
    (ChangeSpec.witness6 (enc := enc) (C := Try.checked) false ⟨#[], #[.slice none 0 0], []⟩ 8 (by kernel_rfl) (by kernel_rfl) (by kernel_rfl) (by kernel_rfl)) ?_
  intro W base args ds gs before hval0 hW hcnd _
  have hval : ∀ (j : Nat) t v, Try.f4.params[j]? = some t → args[j]? = some v → Value.okWide Try.prog W .any base t v := hval0
  have hW' := hW
  obtain ⟨p, q, hA0, hV, rfl, hfz, hnd⟩ := hW
  have hA : DataW.TrodAll enc Try.prog W 0 (fun _ => true) true Try.f4.params.toList args.toList ds p := hA0
  rw [Try.params4] at hA hval
  obtain ⟨v0, vs0, d0, ds0, p0, q0, hargs, rfl, rfl, h0, r0⟩ := trodAll_cons hA
  obtain ⟨rfl, rfl, rfl⟩ := trodAll_nil r0
  obtain rfl : args = #[v0] := by cases args; simp_all
  obtain ⟨rfl, rfl⟩ := trodVars_none hV
  obtain ⟨a0, len0, cap0, rfl⟩ := okWide_slice Try.underlying22 (hval 0 22 v0 rfl rfl)
  have k0 := h0
  have lt0 : ∀ x ∈ p0, x.block < W.heap.size := by obtain ⟨m, hm⟩ := k0; exact DataW.trod_lt m _ _ _ hm
  obtain ⟨z0, w0⟩ : ∃ zs, IsRow .i64 W a0 len0 cap0 zs := by
    obtain ⟨fuel, hf⟩ := h0
    rcases open_ints Try.underlying22 Try.underlying3 (by kernel_rfl) hf with ⟨hcs, _⟩ | ⟨x, l, c, zs, hcs, _, hl, hm, hz, _, hcell, hwz⟩
    · simp [Value.cells] at hcs
      obtain ⟨rfl, rfl, rfl⟩ := hcs
      exact ⟨[], .inl ⟨rfl, rfl, rfl, rfl⟩⟩
    · simp [Value.cells] at hcs
      obtain ⟨rfl, rfl, rfl⟩ := hcs
      exact ⟨zs, .inr ⟨_, rfl, hl, hm, by simpa using hz, hcell, hwz⟩⟩
  clear hA0 hval0
  refine (walk a0 len0 cap0 z0 W w0).mono fun e W' ⟨he, bel⟩ => ?_
  subst he
  exact ⟨_, rfl, _, _, _, [], _, [], hW', trodAll_mk1 (shut_bool Try.underlying4 _), (trodAll_cons_mk (Below.trod laidOut (by kernel_rfl) (of_decide_eq_true (by kernel_rfl)) k0 bel lt0) trodAll_mk0), rfl, bel.frame _, fun h => by cases h⟩

theorem over : Rows.codeApartRow.holds Try.pinned (OpenSpec.ofChange Rows.codeApartSpec) :=
  OpenClaim.holds_of_wide 4 Try.f4 rfl rfl rfl rfl rfl rfl rfl ⟨rfl, rfl, rfl, rfl, rfl⟩ rfl rfl rfl rfl rfl (by kernel_rfl) Try.func4 (by kernel_rfl)
    (of_decide_eq_true (by kernel_rfl)) (by unfold Func.isWrapper; first | (rw [if_pos (by decide +kernel)]; kernel_rfl) | (rw [if_neg (by decide +kernel)]; exact ⟨rfl, rfl⟩))
    (fun os started H enc _ => lifted os started H enc)

/-- ████ THE STATEMENT ████ -/
theorem proved : Rows.CodeApartSaid := over
#print axioms proved
end Go.Proofs.Ythelcnidkehlhaa.codeApart
