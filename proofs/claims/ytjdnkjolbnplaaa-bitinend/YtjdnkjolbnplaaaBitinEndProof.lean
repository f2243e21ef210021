/-
  What is proved: for every input the Go function BitinEnd of the statements of layer 2 returns true, and its arguments read as before (behind its end a reader tells nothing more, however few bits are asked for).
  Conditions: none.
-/
import Derived.Test.YtjdnkjolbnplaaaRows
import Derived.Test.YtjdnkjolbnplaaaAns
import Derived.WalkKit
import Derived.ProofKit
import Derived.OpenShut
import Derived.ShutString
import Derived.ChangeOld
import Derived.Below
namespace Go.Proofs.Ytjdnkjolbnplaaa.bitinEnd
open Go.ChangeShapes Go.WideShapes Go.ChangeAt Go.RowKit
open Go.Proofs.Ytjdnkjolbnplaaa.Base Go.Proofs.Ytjdnkjolbnplaaa.Mem Go.Proofs.Ytjdnkjolbnplaaa.Rd Go.Proofs.Ytjdnkjolbnplaaa.New Go.Proofs.Ytjdnkjolbnplaaa.Ans
open Go.ChangeMaps (open_string shut_string)
set_option linter.unusedVariables false

theorem own : ownKnob Try.prog.godebug = none := by kernel_rfl
theorem laidOut : laidOutB Try.prog = true := by kernel_rfl

/-- WHAT THE WALK IS TOLD OF A SLICE OF INTEGERS THAT CAME IN: it is nil; or it leads to a row of 'cap' cells, the numbers 'zs' (the first 'len' are its elements, the rest its spare room), each fitting its kind. -/
def IsRow (k : IntKind) (w : World) (a : Option Addr) (len cap : Nat) (zs : List Int) : Prop :=
  (a = none ∧ len = 0 ∧ cap = 0 ∧ zs = []) ∨
  ∃ x, a = some x ∧ len ≤ cap ∧ cap ≤ maxLen ∧ zs.length = cap ∧ (∀ i, i < zs.length → w.cell? (x.add i) = some (.int k (zs.getD i 0))) ∧ ∀ n ∈ zs, (Lit.int k n).wf = true


set_option maxHeartbeats 1000000 in
theorem walk (a0 : Option Addr) (len0 cap0 : Nat) (z0 : List Int) (a1 : Int) (a2 : Int) (w : World) (w0 : IsRow .u8 w a0 len0 cap0 z0) (w1 : (Lit.int .u8 a1).wf = true) (w2 : (Lit.int .u8 a2).wf = true) :
    Calls Try.prog 6 #[.slice a0 len0 cap0, .int .u8 a1, .int .u8 a2] w fun e w' => e = .returned (.bool true) ∧ Below w.heap.size w w' := by
  have b1 := bounds_u8 w1
  have b2 := bounds_u8 w2
  clear w1 w2
  by_cases hbig : 100 < len0
  · have hbig' : (100 : Int) < (len0 : Int) := by omega
    clear w0
    go_enter Try.func6, Try.ntmps6
    go_wp2_with (go_at_call 7; refine (ans7 _).mono ?_; rintro e w1 ⟨rfl, bel⟩)
    go_ret
    exact ⟨rfl, bel⟩
  · have hlen : (len0 : Int) ≤ 100 := by omega
    obtain ⟨c, hc, src⟩ := src_of_row w0
    have N := hide (new8 _ len0 c w src (by omega))
    clear w0 src
    go_enter Try.func6, Try.ntmps6
    go_wp2_with fail
    refine (unhide N).mono ?_
    rintro e w1 ⟨g, rfl, on1, bel1⟩
    clear N
    have lg : w.heap.size ≤ g := by
      obtain ⟨_, _, _, h, _⟩ := on1
      exact h
    go_wp2
    go_loopw [8, 9] (fun k i wr => ∃ (j r : Nat), j ≤ 8 ∧ i = .int .i64 j ∧ k = .int .i64 r ∧ r ≤ 8 * len0 ∧ On wr w.heap.size w1.heap.size g c len0 (8 * len0 - r) ∧ Below w.heap.size w wr) (fun _ i _ => 8 - (intOf i).toNat)
    case atStart => exact ⟨0, 8 * len0, by omega, rfl, by go_num, Nat.le_refl _, by rw [Nat.sub_self]; exact on1, bel1⟩
    case round =>
      obtain ⟨j, r, hj, rfl, rfl, hr, on, bel⟩ := hrel
      clear on1 bel1
      have HON := hide on
      have HB := hide bel
      clear on bel
      by_cases hlt : (j : Int) < a1 % 8
      · by_cases h5 : 5 ≤ r
        · have h5' : (5 : Int) ≤ (r : Int) := by omega
          go_wp2_with fail
          refine (bits_on _ _ g len0 (8 * len0 - r) 5 c hc _ (unhide HON) (by omega) (by omega) (by omega) (by omega)).mono ?_
          rintro e w2 ⟨rfl, on2, u2⟩
          have O2 := hide on2
          have B2 := hide ((unhide HB).trans (u2.below w.heap.size (unhide HB).size (fun k hk => hk ▸ lg)))
          clear on2 u2 HON HB
          go_wp2
          go_roundw
          case rel =>
            refine ⟨j + 1, r - 5, by omega, by go_num, ?_, by omega, ?_, unhide B2⟩
            · have e : ((r - 5 : Nat) : Int) = (r : Int) - 5 := by omega
              rw [e]
            · have e : 8 * len0 - (r - 5) = 8 * len0 - r + 5 := by omega
              rw [e]; exact unhide O2
          case measure => simp [intOf]; omega
        · have h5' : (r : Int) < 5 := by omega
          go_wp2
          go_roundw
          case rel => exact ⟨j + 1, r, by omega, by go_num, rfl, hr, unhide HON, unhide HB⟩
          case measure => simp [intOf]; omega
      · by_cases h32 : r < 32
        · have h32' : (r : Int) < 32 := by omega
          go_wp2_with fail
          refine (bits_end _ _ g len0 (8 * len0 - r) 32 c _ (unhide HON) (by omega) (by omega) (by omega) (by omega)).mono ?_
          rintro e w2 ⟨rfl, off2, u2⟩
          have O2 := hide off2
          have B2 := hide ((unhide HB).trans (u2.below w.heap.size (unhide HB).size (fun k hk => hk ▸ lg)))
          clear off2 u2 HON HB
          obtain ⟨m, hm⟩ := Int.eq_ofNat_of_zero_le (show 0 ≤ 1 + a2 % 32 by omega)
          have M := hide hm
          have m0 : 1 ≤ m := by omega
          have m1 : m ≤ 32 := by omega
          clear hm
          go_wp2_with fail
          rw [unhide M]
          refine (bits_off g m _ (unhide O2) m0 m1).mono ?_
          rintro e w3 ⟨rfl, off3, u3⟩
          have O3 := hide off3
          have B3 := hide ((unhide B2).trans (u3.below w.heap.size (unhide B2).size (fun k hk => hk ▸ lg)))
          clear off3 u3 O2 B2
          go_wp2_with (first | (go_at_call 10; refine (bits_zero _ _).mono ?_; rintro e w4 ⟨rfl, rfl⟩) | fail)
          refine (ans7 _).mono ?_
          rintro e w4 ⟨rfl, b4⟩
          have O4 := hide ((unhide O3).keep (Upd.ofBelow (S := fun _ => False) b4) (fun h => h))
          have B4 := hide ((unhide B3).trans (b4.mono (unhide B3).size))
          clear b4 O3 B3
          go_wp2_with fail
          refine (left_off g _ (unhide O4)).mono ?_
          rintro e w5 ⟨rfl, kk, rfl⟩
          go_wp2_with fail
          refine (over_off g (w4.drewN kk) (unhide O4)).mono ?_
          rintro e w5 ⟨rfl, rfl⟩
          go_wp2
          go_ret
          exact ⟨rfl, below_drewN (unhide B4) _⟩
        · have h32' : (32 : Int) ≤ (r : Int) := by omega
          go_wp2_with fail
          refine (ans7 _).mono ?_
          rintro e w4 ⟨rfl, b4⟩
          have O4 := hide ((unhide HON).keep (Upd.ofBelow (S := fun _ => False) b4) (fun _ _ _ h => h))
          have B4 := hide ((unhide HB).trans (b4.mono (unhide HB).size))
          clear b4 HON HB
          go_wp2_with fail
          refine (left_on _ _ g len0 _ c _ (unhide O4) (by omega)).mono ?_
          rintro e w5 ⟨rfl, kk, rfl⟩
          have e : 8 * len0 - (8 * len0 - r) = r := by omega
          rw [e]
          clear e
          go_wp2_with fail
          refine (over_on _ _ g len0 _ c (w4.drewN kk) (unhide O4)).mono ?_
          rintro e w5 ⟨rfl, rfl⟩
          go_wp2
          go_ret
          exact ⟨rfl, below_drewN (unhide B4) _⟩

/-! ### THE ROW's STEP: WRITTEN OUT: LEAVE IT -/
set_option maxRecDepth 100000 in
theorem lifted (os : Os) (started : os.Started) (H : Type) (enc : TypeId × Value → H) :
    ReturnsInHanded {} Try.checked os 6 .any (Rows.bitinEndSpec.pre6 enc Try.prog Try.f6 Rows.bitinEndRow.domain false) (Rows.bitinEndSpec.post enc Try.prog Try.f6 false true false false) := by
  refine returnsInHanded_of_change (C := Try.checked) own started (by kernel_rfl) Try.func6
    (ChangeSpec.witness6 (enc := enc) (C := Try.checked) false ⟨#[], #[.slice none 0 0, .int .u8 0, .int .u8 0], []⟩ 8 (by kernel_rfl) (by kernel_rfl) (by kernel_rfl) (by kernel_rfl)) ?_
  intro W base args ds gs before hval0 hW hcnd _
  have hval : ∀ (j : Nat) t v, Try.f6.params[j]? = some t → args[j]? = some v → Value.okWide Try.prog W .any base t v := hval0
  have hW' := hW
  obtain ⟨p, q, hA0, hV, rfl, hfz, hnd⟩ := hW
  have hA : DataW.TrodAll enc Try.prog W 0 (fun _ => true) true Try.f6.params.toList args.toList ds p := hA0
  rw [Try.params6] at hA hval
  obtain ⟨v0, vs0, d0, ds0, p0, q0, hargs, rfl, rfl, h0, r0⟩ := trodAll_cons hA
  obtain ⟨v1, vs1, d1, ds1, p1, q1, rfl, rfl, rfl, h1, r1⟩ := trodAll_cons r0
  obtain ⟨v2, vs2, d2, ds2, p2, q2, rfl, rfl, rfl, h2, r2⟩ := trodAll_cons r1
  obtain ⟨rfl, rfl, rfl⟩ := trodAll_nil r2
  obtain rfl : args = #[v0, v1, v2] := by cases args; simp_all
  obtain ⟨rfl, rfl⟩ := trodVars_none hV
  obtain ⟨a0, len0, cap0, rfl⟩ := okWide_slice Try.underlying22 (hval 0 22 v0 rfl rfl)
  have k0 := h0
  have lt0 : ∀ x ∈ p0, x.block < W.heap.size := by obtain ⟨m, hm⟩ := k0; exact DataW.trod_lt m _ _ _ hm
  obtain ⟨z0, w0⟩ : ∃ zs, IsRow .u8 W a0 len0 cap0 zs := by
    obtain ⟨fuel, hf⟩ := h0
    rcases open_ints Try.underlying22 Try.underlying5 (by kernel_rfl) hf with ⟨hcs, _⟩ | ⟨x, l, c, zs, hcs, _, hl, hm, hz, _, hcell, hwz⟩
    · simp [Value.cells] at hcs
      obtain ⟨rfl, rfl, rfl⟩ := hcs
      exact ⟨[], .inl ⟨rfl, rfl, rfl, rfl⟩⟩
    · simp [Value.cells] at hcs
      obtain ⟨rfl, rfl, rfl⟩ := hcs
      exact ⟨zs, .inr ⟨_, rfl, hl, hm, by simpa using hz, hcell, hwz⟩⟩
  obtain ⟨a1, rfl, rfl, rfl, w1⟩ := open_int Try.underlying5 (hval 1 5 v1 rfl rfl) h1
  obtain ⟨a2, rfl, rfl, rfl, w2⟩ := open_int Try.underlying5 (hval 2 5 v2 rfl rfl) h2
  clear hA0 hval0
  refine (walk a0 len0 cap0 z0 a1 a2 W w0 w1 w2).mono fun e W' ⟨he, bel⟩ => ?_
  subst he
  exact ⟨_, rfl, _, _, _, [], _, [], hW', trodAll_mk1 (shut_bool Try.underlying4 _), (trodAll_cons_mk (Below.trod laidOut (by kernel_rfl) (of_decide_eq_true (by kernel_rfl)) k0 bel lt0) (trodAll_cons_mk (shut_int Try.underlying5 w1) (trodAll_cons_mk (shut_int Try.underlying5 w2) trodAll_mk0))), rfl, bel.frame _, fun h => by cases h⟩

theorem over : Rows.bitinEndRow.holds Try.pinned (OpenSpec.ofChange Rows.bitinEndSpec) :=
  OpenClaim.holds_of_wide 6 Try.f6 rfl rfl rfl rfl rfl rfl rfl ⟨rfl, rfl, rfl, rfl, rfl⟩ rfl rfl rfl rfl rfl (by kernel_rfl) Try.func6 (by kernel_rfl)
    (of_decide_eq_true (by kernel_rfl)) (by unfold Func.isWrapper; first | (rw [if_pos (by decide +kernel)]; kernel_rfl) | (rw [if_neg (by decide +kernel)]; exact ⟨rfl, rfl⟩))
    (fun os started H enc _ => lifted os started H enc)

/-- ████ THE STATEMENT ████ -/
theorem proved : Rows.BitinEndSaid := over
#print axioms proved
end Go.Proofs.Ytjdnkjolbnplaaa.bitinEnd
