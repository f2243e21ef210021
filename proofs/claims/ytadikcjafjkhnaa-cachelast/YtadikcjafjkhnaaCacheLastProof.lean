/-
  What is proved: for every slice of colours and number the Go function CacheLast of the statements of layer 10 returns true, and its arguments read as before.
  Conditions: none.
-/
import Derived.Test.YtadikcjafjkhnaaRows
import Derived.Test.YtadikcjafjkhnaaCac
import Derived.Test.YtadikcjafjkhnaaIns
import Derived.WalkKit
import Derived.ProofKit
import Derived.OpenShut
import Derived.ShutString
import Derived.ChangeOld
import Derived.Below
namespace Go.Proofs.Ytadikcjafjkhnaa.cacheLast
open Go.ChangeShapes Go.WideShapes Go.ChangeAt Go.RowKit
open Go.Proofs.Ytadikcjafjkhnaa.Core Go.Proofs.Ytadikcjafjkhnaa.Num Go.Proofs.Ytadikcjafjkhnaa.Slo Go.Proofs.Ytadikcjafjkhnaa.Cac Go.Proofs.Ytadikcjafjkhnaa.Ins
open Go.ChangeMaps (open_string shut_string)
set_option linter.unusedVariables false

theorem own : ownKnob Try.prog.godebug = none := by kernel_rfl
theorem laidOut : laidOutB Try.prog = true := by kernel_rfl

/-- WHAT THE WALK IS TOLD OF A SLICE OF INTEGERS THAT CAME IN: it is nil; or it leads to a row of 'cap' cells, the numbers 'zs' (the first 'len' are its elements, the rest its spare room), each fitting its kind. -/
def IsRow (k : IntKind) (w : World) (a : Option Addr) (len cap : Nat) (zs : List Int) : Prop :=
  (a = none ∧ len = 0 ∧ cap = 0 ∧ zs = []) ∨
  ∃ x, a = some x ∧ len ≤ cap ∧ cap ≤ maxLen ∧ zs.length = cap ∧ (∀ i, i < zs.length → w.cell? (x.add i) = some (.int k (zs.getD i 0))) ∧ ∀ n ∈ zs, (Lit.int k n).wf = true

/-- What the cache holds behind the first k colours. -/
structure Lst (w wr : World) (b n k : Nat) (c : Nat → Nat) : Prop where
  ex : ∃ f, Ca wr (w.heap.size + 1) w.heap.size b n f ∧ (0 < k → f (sl (c (k - 1)) b) = c (k - 1))
  bel : Below w.heap.size w wr
theorem Lst.next {w wr : World} {b n k : Nat} {c : Nat → Nat} (h : Lst w wr b n k c) : Lst w (wr.setCell ⟨w.heap.size, sl (c k) b, none⟩ (.int .u32 (c k))) b n (k + 1) c := by
  obtain ⟨⟨f, h1, _⟩, bel⟩ := h
  exact ⟨⟨_, h1.set _ _, fun _ => by simp only [Nat.add_sub_cancel]; exact upd_same _ _ _⟩, bel.setCell (p := ⟨w.heap.size, _, none⟩) (Nat.le_refl _) _⟩
theorem rem_at (m : Nat) (h : m ≤ 255) : ∃ q : Nat, (m : Int) % 11 = (q : Int) ∧ q ≤ 10 := ⟨m % 11, by omega, by omega⟩
set_option maxRecDepth 20000 in
set_option maxHeartbeats 1000000 in
theorem walk (a0 : Option Addr) (len0 cap0 : Nat) (z0 : List Int) (a1 : Int) (w : World) (w0 : IsRow .u32 w a0 len0 cap0 z0) (w1 : (Lit.int .u8 a1).wf = true) :
    Calls Try.prog 6 #[.slice a0 len0 cap0, .int .u8 a1] w fun e w' => e = .returned (.bool true) ∧ Below w.heap.size w w' := by
  have b1 := bounds_u8 w1
  clear w1
  obtain ⟨m, rfl⟩ := Int.eq_ofNat_of_zero_le b1.1
  obtain ⟨S, hz⟩ := slc_of_row w0
  clear w0
  by_cases h2 : 200 < len0
  · have h2' : (200 : Int) < len0 := by omega
    clear S hz b1
    go_enter Try.func6, Try.ntmps6
    go_wp2_with fail
    refine (ans8 _).mono ?_
    rintro e w' ⟨rfl, bel⟩
    have BB := hide bel
    clear bel
    go_wp2
    go_ret
    exact ⟨rfl, unhide BB⟩
  · by_cases h0 : len0 = 0
    · subst h0
      clear S hz b1 h2
      go_enter Try.func6, Try.ntmps6
      go_wp2_with fail
      refine (ans8 _).mono ?_
      rintro e w' ⟨rfl, bel⟩
      have BB := hide bel
      clear bel
      go_wp2
      go_ret
      exact ⟨rfl, unhide BB⟩
    · rcases S with S | ⟨B, off, rfl, I⟩
      · exact absurd S h0
      obtain ⟨c, hc, hcb⟩ := nat_of_u32 z0 hz
      obtain ⟨q, hq, hq10⟩ := rem_at m (by omega)
      have IC : Ints .u32 w B off len0 (fun i => (c i : Int)) := fun i hi => (I i hi).trans (congrArg (fun z => some (Value.int .u32 z)) (hc i))
      have II := hide IC
      have h2' : ¬ (200 : Int) < len0 := by omega
      have h0' : ((len0 : Int) == 0) = false := by rw [beq_eq_false_iff_ne]; omega
      have hm' : (m : Int) ≤ 255 := b1.2
      have HCB := hide hcb
      have HQ := hide hq10
      have HL := hide (show 0 < len0 ∧ len0 ≤ 200 by omega)
      have hq' : (q : Int) ≤ 10 := by omega
      clear I hz hc hcb b1 IC hq10 h0 h2
      go_enter Try.func6, Try.ntmps6
      go_wp2_with fail
      refine (new7 (q + 1) _ (by omega) (by have := unhide HQ; omega)).mono ?_
      rintro e w1 ⟨rfl, sz, C, bel⟩
      have hp := (pow_cast (q + 1)).symm
      have hl := pow_le (q + 1) (by have := unhide HQ; omega)
      generalize 2 ^ (q + 1) = n at C hp hl
      have LL := hide (show Lst w w1 (q + 1) n 0 c from ⟨⟨_, C, fun h => absurd h (Nat.lt_irrefl 0)⟩, bel⟩)
      have hl' : (n : Int) ≤ 2048 := by omega
      clear C sz bel
      go_wp2
      go_loopw [8] (fun i wr => ∃ k : Nat, k ≤ len0 ∧ i = .int .i64 k ∧ Lst w wr (q + 1) n k c) (fun i _ => len0 - (intOf i).toNat)
      case atStart => exact ⟨0, Nat.zero_le _, rfl, unhide LL⟩
      case round =>
        obtain ⟨k, hk, rfl, lst⟩ := hrel
        have LS := hide lst
        by_cases hlt : k < len0
        · have hlt' : (k : Int) < (len0 : Int) := by omega
          have c0 := (unhide II).at lst.bel k hlt
          clear lst
          obtain ⟨f, C, _⟩ := (unhide LS).ex
          have CC := hide C
          clear C
          go_wp2_with fail
          refine (add11 _ _ _ _ _ _ _ (unhide CC)).mono ?_
          rintro e w2 ⟨rfl, hw⟩
          have L2 := hide (unhide LS).next
          rw [← hw] at L2
          clear hw
          go_wp2
          go_roundw
          case rel => exact ⟨k + 1, by omega, by go_num, unhide L2⟩
          case measure => simp [intOf]; omega
        · have e : k = len0 := by omega
          subst e
          have hll := unhide HL
          have c0 := (unhide II).at lst.bel (k - 1) (by omega)
          obtain ⟨j, rfl⟩ : ∃ j, k = j + 1 := ⟨k - 1, by omega⟩
          rw [Nat.add_sub_cancel] at c0
          obtain ⟨f, C, hf⟩ := (unhide LS).ex
          have CC := hide C
          have hf2 := hf (by omega)
          rw [Nat.add_sub_cancel] at hf2
          have HF := hide hf2
          have BB := hide lst.bel
          clear C lst hf hf2 hll hlt LS LL
          go_wp2_with fail
          refine (find9_yes _ _ _ _ _ _ _ (unhide CC) (unhide HF)).mono ?_
          rintro e w2 ⟨rfl, rfl⟩
          go_wp2_with fail
          refine (get12 _ _ _ _ _ _ _ (unhide CC) ((unhide CC).in _)).mono ?_
          rintro e w2 ⟨rfl, rfl⟩
          rw [unhide HF]
          go_wp2_with fail
          refine (get12_no _ _ _ _ _ _ _ (unhide CC) (.inr (Int.le_refl _))).mono ?_
          rintro e w2 ⟨rfl, rfl⟩
          go_wp2_with fail
          refine (ans8 _).mono ?_
          rintro e w3 ⟨rfl, bel3⟩
          have B3 := hide ((unhide BB).trans (bel3.mono (unhide BB).size))
          clear bel3
          go_wp2_with fail
          refine (rslot10_in _ (q + 1) _ (unhide HCB j) (by omega) (by have := unhide HQ; omega)).mono ?_
          rintro e w4 ⟨rfl, rfl⟩
          generalize sl (c j) (q + 1) = s at *
          go_wp2
          go_ret
          exact ⟨rfl, unhide B3⟩

/-! ### THE ROW's STEP: WRITTEN OUT: LEAVE IT -/
set_option maxRecDepth 100000 in
theorem lifted (os : Os) (started : os.Started) (H : Type) (enc : TypeId × Value → H) :
    ReturnsInHanded {} Try.checked os 6 .any (Rows.cacheLastSpec.pre6 enc Try.prog Try.f6 Rows.cacheLastRow.domain false) (Rows.cacheLastSpec.post enc Try.prog Try.f6 false true false false) := by
  refine returnsInHanded_of_change (C := Try.checked) own started (by kernel_rfl) Try.func6
    (ChangeSpec.witness6 (enc := enc) (C := Try.checked) false ⟨#[], #[.slice none 0 0, .int .u8 0], []⟩ 8 (by kernel_rfl) (by kernel_rfl) (by kernel_rfl) (by kernel_rfl)) ?_
  intro W base args ds gs before hval0 hW hcnd _
  have hval : ∀ (j : Nat) t v, Try.f6.params[j]? = some t → args[j]? = some v → Value.okWide Try.prog W .any base t v := hval0
  have hW' := hW
  obtain ⟨p, q, hA0, hV, rfl, hfz, hnd⟩ := hW
  have hA : DataW.TrodAll enc Try.prog W 0 (fun _ => true) true Try.f6.params.toList args.toList ds p := hA0
  rw [Try.params6] at hA hval
  obtain ⟨v0, vs0, d0, ds0, p0, q0, hargs, rfl, rfl, h0, r0⟩ := trodAll_cons hA
  obtain ⟨v1, vs1, d1, ds1, p1, q1, rfl, rfl, rfl, h1, r1⟩ := trodAll_cons r0
  obtain ⟨rfl, rfl, rfl⟩ := trodAll_nil r1
  obtain rfl : args = #[v0, v1] := by cases args; simp_all
  obtain ⟨rfl, rfl⟩ := trodVars_none hV
  obtain ⟨a0, len0, cap0, rfl⟩ := okWide_slice Try.underlying22 (hval 0 22 v0 rfl rfl)
  have k0 := h0
  have lt0 : ∀ x ∈ p0, x.block < W.heap.size := by obtain ⟨m, hm⟩ := k0; exact DataW.trod_lt m _ _ _ hm
  obtain ⟨z0, w0⟩ : ∃ zs, IsRow .u32 W a0 len0 cap0 zs := by
    obtain ⟨fuel, hf⟩ := h0
    rcases open_ints Try.underlying22 Try.underlying32 (by kernel_rfl) hf with ⟨hcs, _⟩ | ⟨x, l, c, zs, hcs, _, hl, hm, hz, _, hcell, hwz⟩
    · simp [Value.cells] at hcs
      obtain ⟨rfl, rfl, rfl⟩ := hcs
      exact ⟨[], .inl ⟨rfl, rfl, rfl, rfl⟩⟩
    · simp [Value.cells] at hcs
      obtain ⟨rfl, rfl, rfl⟩ := hcs
      exact ⟨zs, .inr ⟨_, rfl, hl, hm, by simpa using hz, hcell, hwz⟩⟩
  obtain ⟨a1, rfl, rfl, rfl, w1⟩ := open_int Try.underlying5 (hval 1 5 v1 rfl rfl) h1
  clear hA0 hval0
  refine (walk a0 len0 cap0 z0 a1 W w0 w1).mono fun e W' ⟨he, bel⟩ => ?_
  subst he
  exact ⟨_, rfl, _, _, _, [], _, [], hW', trodAll_mk1 (shut_bool Try.underlying4 _), (trodAll_cons_mk (Below.trod laidOut (by kernel_rfl) (of_decide_eq_true (by kernel_rfl)) k0 bel lt0) (trodAll_cons_mk (shut_int Try.underlying5 w1) trodAll_mk0)), rfl, bel.frame _, fun h => by cases h⟩

theorem over : Rows.cacheLastRow.holds Try.pinned (OpenSpec.ofChange Rows.cacheLastSpec) :=
  OpenClaim.holds_of_wide 6 Try.f6 rfl rfl rfl rfl rfl rfl rfl ⟨rfl, rfl, rfl, rfl, rfl⟩ rfl rfl rfl rfl rfl (by kernel_rfl) Try.func6 (by kernel_rfl)
    (of_decide_eq_true (by kernel_rfl)) (by unfold Func.isWrapper; first | (rw [if_pos (by decide +kernel)]; kernel_rfl) | (rw [if_neg (by decide +kernel)]; exact ⟨rfl, rfl⟩))
    (fun os started H enc _ => lifted os started H enc)

/-- ████ THE STATEMENT ████ -/
theorem proved : Rows.CacheLastSaid := over
#print axioms proved
end Go.Proofs.Ytadikcjafjkhnaa.cacheLast
