/-
  What is proved: for every input the Go function BitinParts of the statements of layer 2 returns true, and its arguments read as before (bits that are read at once are those that are read in two parts).
  Conditions: none.
-/
import Derived.Test.YtjdnkjolbnplaaaRows
import Derived.Test.YtjdnkjolbnplaaaStp
import Derived.WalkKit
import Derived.ProofKit
import Derived.OpenShut
import Derived.ShutString
import Derived.ChangeOld
import Derived.Below
namespace Go.Proofs.Ytjdnkjolbnplaaa.bitinParts
open Go.ChangeShapes Go.WideShapes Go.ChangeAt Go.RowKit
open Go.Proofs.Ytjdnkjolbnplaaa.Base Go.Proofs.Ytjdnkjolbnplaaa.Mem Go.Proofs.Ytjdnkjolbnplaaa.Rd Go.Proofs.Ytjdnkjolbnplaaa.New Go.Proofs.Ytjdnkjolbnplaaa.Ans Go.Proofs.Ytjdnkjolbnplaaa.Stp
open Go.ChangeMaps (open_string shut_string)
set_option linter.unusedVariables false

theorem own : ownKnob Try.prog.godebug = none := by kernel_rfl
theorem laidOut : laidOutB Try.prog = true := by kernel_rfl

/-- WHAT THE WALK IS TOLD OF A SLICE OF INTEGERS THAT CAME IN: it is nil; or it leads to a row of 'cap' cells, the numbers 'zs' (the first 'len' are its elements, the rest its spare room), each fitting its kind. -/
def IsRow (k : IntKind) (w : World) (a : Option Addr) (len cap : Nat) (zs : List Int) : Prop :=
  (a = none ∧ len = 0 ∧ cap = 0 ∧ zs = []) ∨
  ∃ x, a = some x ∧ len ≤ cap ∧ cap ≤ maxLen ∧ zs.length = cap ∧ (∀ i, i < zs.length → w.cell? (x.add i) = some (.int k (zs.getD i 0))) ∧ ∀ n ∈ zs, (Lit.int k n).wf = true

theorem parts (c : Nat → Nat) (len : Nat) (s : Option Nat) (x y : Nat) :
    (resE len s (x + y) = 0 ∧ resE len s x = 0 ∧ resE len (stp len s x) y = 0 ∧ resV c len s (x + y) = resV c len s x + resV c len (stp len s x) y * 2 ^ x) ∨
    (resE len s (x + y) = 2 ∧ resE len s x = 2) ∨ (resE len s (x + y) = 2 ∧ resE len s x = 0 ∧ resE len (stp len s x) y = 2) := by
  cases s with
  | none =>
    by_cases hx : x = 0
    · by_cases hy : y = 0
      · simp [resE, resV, stp, hx, hy]
      · simp [resE, resV, stp, hx, hy]
    · simp [resE, resV, stp, hx]
  | some i =>
    by_cases hx : x = 0
    · subst hx
      by_cases hy : y = 0
      · subst hy
        simp [resE, resV, stp, val, Nat.mod_one]
      · by_cases h : i + y ≤ 8 * len
        · simp [resE, resV, stp, hy, h, val, Nat.mod_one]
        · simp [resE, resV, stp, hy, h]
    · by_cases h1 : i + x ≤ 8 * len
      · by_cases hy : y = 0
        · subst hy
          simp [resE, resV, stp, hx, h1, val, Nat.mod_one]
        · by_cases h : i + x + y ≤ 8 * len
          · have h' : i + (x + y) ≤ 8 * len := by omega
            simp [resE, resV, stp, hx, hy, h, h', h1, val_add]
          · have h' : ¬ i + (x + y) ≤ 8 * len := by omega
            simp [resE, resV, stp, hx, hy, h, h', h1]
      · have h' : ¬ i + (x + y) ≤ 8 * len := by omega
        simp [resE, resV, stp, hx, h', h1]
theorem resV_lt (c : Nat → Nat) (len : Nat) (s : Option Nat) (n : Nat) : resV c len s n < 2 ^ n := by
  have h : 0 < 2 ^ n := Nat.pow_pos (by omega)
  unfold resV
  split
  · split
    · exact val_lt _ _ _ _
    · exact h
  · exact h
theorem mul_bd (x y d : Nat) (hx : x ≤ 16) (hy : y ≤ 16) (hd : d < 2 ^ y) : (d : Int) ≤ 65535 ∧ (1 : Int) ≤ 2 ^ x ∧ (2 : Int) ^ x ≤ 65536 ∧ (0 : Int) ≤ (d : Int) * 2 ^ x ∧ (d : Int) * 2 ^ x ≤ 4294967295 := by
  have h1 : (2 : Nat) ^ x ≤ 2 ^ 16 := Nat.pow_le_pow_right (by omega) hx
  have h2 : (2 : Nat) ^ y ≤ 2 ^ 16 := Nat.pow_le_pow_right (by omega) hy
  have h0 : 0 < (2 : Nat) ^ x := Nat.pow_pos (by omega)
  have h3 : ((2 ^ x : Nat) : Int) = (2 : Int) ^ x := by simp
  have h4 : (2 : Nat) ^ 16 = 65536 := by decide
  have h5 : d * 2 ^ x ≤ 65535 * 65536 := Nat.mul_le_mul (by omega) (by omega)
  have h6 : ((d * 2 ^ x : Nat) : Int) = (d : Int) * 2 ^ x := by simp
  omega

set_option maxHeartbeats 1000000 in
theorem walk (a0 : Option Addr) (len0 cap0 : Nat) (z0 : List Int) (a1 : Int) (a2 : Int) (a3 : Int) (w : World) (w0 : IsRow .u8 w a0 len0 cap0 z0) (w1 : (Lit.int .u8 a1).wf = true) (w2 : (Lit.int .u8 a2).wf = true) (w3 : (Lit.int .u8 a3).wf = true) :
    Calls Try.prog 4 #[.slice a0 len0 cap0, .int .u8 a1, .int .u8 a2, .int .u8 a3] w fun e w' => e = .returned (.bool true) ∧ Below w.heap.size w w' := by
  have b1 := bounds_u8 w1
  have b2 := bounds_u8 w2
  have b3 := bounds_u8 w3
  clear w1 w2 w3
  by_cases hbig : 100 < len0
  · have hbig' : (100 : Int) < (len0 : Int) := by omega
    clear w0
    go_enter Try.func4, Try.ntmps4
    go_wp2_with (go_at_call 7; refine (ans7 _).mono ?_; rintro e w1 ⟨rfl, bel⟩)
    go_ret
    exact ⟨rfl, bel⟩
  · have hlen : (len0 : Int) ≤ 100 := by omega
    obtain ⟨c, hc, src⟩ := src_of_row w0
    have SRC := hide src
    clear w0 src
    obtain ⟨k, hk⟩ := Int.eq_ofNat_of_zero_le (show 0 ≤ a1 % 9 by omega)
    obtain ⟨x, hx⟩ := Int.eq_ofNat_of_zero_le (show 0 ≤ a2 % 17 by omega)
    obtain ⟨y, hy⟩ := Int.eq_ofNat_of_zero_le (show 0 ≤ a3 % 17 by omega)
    have kb : k ≤ 8 := by omega
    have xb : x ≤ 16 := by omega
    have yb : y ≤ 16 := by omega
    go_enter Try.func4, Try.ntmps4
    go_wp2_with fail
    refine (new8 _ len0 c _ (unhide SRC) (by omega)).mono ?_
    rintro e w1 ⟨g, rfl, on1, bel1⟩
    have R1 := hide (On.at on1)
    have B1 := hide bel1
    have S1 := hide ((unhide SRC).keep (Upd.ofBelow (S := fun _ => False) bel1) (fun _ h => h.elim))
    clear on1 bel1 SRC
    go_wp2_with fail
    refine (new8 _ len0 c _ (unhide S1) (by omega)).mono ?_
    rintro e w2 ⟨h, rfl, on2, bel2⟩
    have R2 := hide ((unhide R1).keep (Upd.ofBelow (S := fun _ => False) bel2) (fun _ _ _ h => h))
    have T2 := hide (On.at on2)
    have B2 := hide ((unhide B1).trans (bel2.mono (unhide B1).size))
    clear on2 bel2 S1 R1 B1
    have rg := (unhide R2).1
    have rg' := (unhide R2).2.1
    have th := (unhide T2).1
    go_wp2_with fail
    refine (bits_step _ _ g len0 k _ c hc _ (unhide R2) (by omega) (by omega)).mono ?_
    rintro e w3 ⟨rfl, at3, u3⟩
    have R3 := hide at3
    have T3 := hide ((unhide T2).keep u3 (fun j h1 h2 h3 => by omega))
    have B3 := hide ((unhide B2).trans (u3.below w.heap.size (unhide B2).size (fun j hj => hj ▸ rg)))
    clear at3 u3 R2 T2 B2
    go_wp2_with fail
    refine (bits_step _ _ h len0 k _ c hc _ (unhide T3) (by omega) (by omega)).mono ?_
    rintro e w4 ⟨rfl, at4, u4⟩
    have T4 := hide at4
    have R4 := hide ((unhide R3).keep u4 (fun j h1 h2 h3 => by omega))
    have B4 := hide ((unhide B3).trans (u4.below w.heap.size (unhide B3).size (fun j hj => by omega)))
    clear at4 u4 R3 T3 B3
    generalize resV c len0 (some 0) k = vk at *
    generalize resE len0 (some 0) k = ek at *
    generalize stp len0 (some 0) k = s at *
    have P := hide (parts c len0 s x y)
    have Q2 := hide (resV_lt c len0 s x)
    have Q := hide (mul_bd x y _ xb yb (resV_lt c len0 (stp len0 s x) y))
    have e : (x : Int) + (y : Int) = ((x + y : Nat) : Int) := by omega
    have E := hide e
    clear e
    go_wp2_with fail
    rw [unhide E]
    refine (bits_step _ _ g len0 (x + y) _ c hc _ (unhide R4) (by omega) (by omega)).mono ?_
    rintro e w5 ⟨rfl, at5, u5⟩
    have T5 := hide ((unhide T4).keep u5 (fun j h1 h2 h3 => by omega))
    have B5 := hide ((unhide B4).trans (u5.below w.heap.size (unhide B4).size (fun j hj => hj ▸ rg)))
    clear at5 u5 R4 T4 B4
    go_wp2_with fail
    refine (bits_step _ _ h len0 x _ c hc _ (unhide T5) (by omega) (by omega)).mono ?_
    rintro e w6 ⟨rfl, at6, u6⟩
    have T6 := hide at6
    have B6 := hide ((unhide B5).trans (u6.below w.heap.size (unhide B5).size (fun j hj => by omega)))
    clear at6 u6 T5 B5
    go_wp2_with fail
    refine (bits_step _ _ h len0 y _ c hc _ (unhide T6) (by omega) (by omega)).mono ?_
    rintro e w7 ⟨rfl, at7, u7⟩
    have B7 := hide ((unhide B6).trans (u7.below w.heap.size (unhide B6).size (fun j hj => by omega)))
    clear at7 u7 T6 B6
    generalize resE len0 s (x + y) = E1 at *
    generalize resE len0 s x = E2 at *
    generalize resE len0 (stp len0 s x) y = E3 at *
    generalize resV c len0 s (x + y) = V1 at *
    generalize resV c len0 s x = V2 at *
    generalize resV c len0 (stp len0 s x) y = V3 at *
    obtain ⟨q1, q2, q3, q4, q5⟩ := unhide Q
    rcases unhide P with ⟨rfl, rfl, rfl, hv⟩ | ⟨rfl, rfl⟩ | ⟨rfl, rfl, rfl⟩
    · have v1 : (V1 : Int) = (V2 : Int) + (V3 : Int) * 2 ^ x := by rw [hv]; simp
      have VV := hide v1
      have v2 : (V2 : Int) ≤ 65535 := by
        have h3 : ((2 ^ x : Nat) : Int) = (2 : Int) ^ x := by simp
        have := unhide Q2
        omega
      have v3 : (V1 : Int) ≤ 18446744073709551615 := by omega
      clear P Q Q2 hv v1
      go_wp2_with fail
      refine (ans7 _).mono ?_
      rintro e w8 ⟨rfl, b8⟩
      have B8 := hide ((unhide B7).trans (b8.mono (unhide B7).size))
      clear b8 B7
      go_wp2
      go_ret
      exact ⟨ret_bool (by rw [unhide VV]; simp), unhide B8⟩
    all_goals
      clear P Q
      go_wp2_with fail
      refine (ans7 _).mono ?_
      rintro e w8 ⟨rfl, b8⟩
      have B8 := hide ((unhide B7).trans (b8.mono (unhide B7).size))
      clear b8 B7
      go_wp2
      go_ret
      exact ⟨rfl, unhide B8⟩

/-! ### THE ROW's STEP: WRITTEN OUT: LEAVE IT -/
set_option maxRecDepth 100000 in
theorem lifted (os : Os) (started : os.Started) (H : Type) (enc : TypeId × Value → H) :
    ReturnsInHanded {} Try.checked os 4 .any (Rows.bitinPartsSpec.pre6 enc Try.prog Try.f4 Rows.bitinPartsRow.domain false) (Rows.bitinPartsSpec.post enc Try.prog Try.f4 false true false false) := by
  refine returnsInHanded_of_change (C := Try.checked) own started (by kernel_rfl) Try.func4
    (ChangeSpec.witness6 (enc := enc) (C := Try.checked) false ⟨#[], #[.slice none 0 0, .int .u8 0, .int .u8 0, .int .u8 0], []⟩ 8 (by kernel_rfl) (by kernel_rfl) (by kernel_rfl) (by kernel_rfl)) ?_
  intro W base args ds gs before hval0 hW hcnd _
  have hval : ∀ (j : Nat) t v, Try.f4.params[j]? = some t → args[j]? = some v → Value.okWide Try.prog W .any base t v := hval0
  have hW' := hW
  obtain ⟨p, q, hA0, hV, rfl, hfz, hnd⟩ := hW
  have hA : DataW.TrodAll enc Try.prog W 0 (fun _ => true) true Try.f4.params.toList args.toList ds p := hA0
  rw [Try.params4] at hA hval
  obtain ⟨v0, vs0, d0, ds0, p0, q0, hargs, rfl, rfl, h0, r0⟩ := trodAll_cons hA
  obtain ⟨v1, vs1, d1, ds1, p1, q1, rfl, rfl, rfl, h1, r1⟩ := trodAll_cons r0
  obtain ⟨v2, vs2, d2, ds2, p2, q2, rfl, rfl, rfl, h2, r2⟩ := trodAll_cons r1
  obtain ⟨v3, vs3, d3, ds3, p3, q3, rfl, rfl, rfl, h3, r3⟩ := trodAll_cons r2
  obtain ⟨rfl, rfl, rfl⟩ := trodAll_nil r3
  obtain rfl : args = #[v0, v1, v2, v3] := by cases args; simp_all
  obtain ⟨rfl, rfl⟩ := trodVars_none hV
  obtain ⟨a0, len0, cap0, rfl⟩ := okWide_slice Try.underlying22 (hval 0 22 v0 rfl rfl)
  have k0 := h0
  have lt0 : ∀ x ∈ p0, x.block < W.heap.size := by obtain ⟨m, hm⟩ := k0; exact DataW.trod_lt m _ _ _ hm
  obtain ⟨z0, w0⟩ : ∃ zs, IsRow .u8 W a0 len0 cap0 zs := by
    obtain ⟨fuel, hf⟩ := h0
    rcases open_ints Try.underlying22 Try.underlying5 (by kernel_rfl) hf with ⟨hcs, _⟩ | ⟨x, l, c, zs, hcs, _, hl, hm, hz, _, hcell, hwz⟩
    · simp [Value.cells] at hcs
      obtain ⟨rfl, rfl, rfl⟩ := hcs
      exact ⟨[], .inl ⟨rfl, rfl, rfl, rfl⟩⟩
    · simp [Value.cells] at hcs
      obtain ⟨rfl, rfl, rfl⟩ := hcs
      exact ⟨zs, .inr ⟨_, rfl, hl, hm, by simpa using hz, hcell, hwz⟩⟩
  obtain ⟨a1, rfl, rfl, rfl, w1⟩ := open_int Try.underlying5 (hval 1 5 v1 rfl rfl) h1
  obtain ⟨a2, rfl, rfl, rfl, w2⟩ := open_int Try.underlying5 (hval 2 5 v2 rfl rfl) h2
  obtain ⟨a3, rfl, rfl, rfl, w3⟩ := open_int Try.underlying5 (hval 3 5 v3 rfl rfl) h3
  clear hA0 hval0
  refine (walk a0 len0 cap0 z0 a1 a2 a3 W w0 w1 w2 w3).mono fun e W' ⟨he, bel⟩ => ?_
  subst he
  exact ⟨_, rfl, _, _, _, [], _, [], hW', trodAll_mk1 (shut_bool Try.underlying4 _), (trodAll_cons_mk (Below.trod laidOut (by kernel_rfl) (of_decide_eq_true (by kernel_rfl)) k0 bel lt0) (trodAll_cons_mk (shut_int Try.underlying5 w1) (trodAll_cons_mk (shut_int Try.underlying5 w2) (trodAll_cons_mk (shut_int Try.underlying5 w3) trodAll_mk0)))), rfl, bel.frame _, fun h => by cases h⟩

theorem over : Rows.bitinPartsRow.holds Try.pinned (OpenSpec.ofChange Rows.bitinPartsSpec) :=
  OpenClaim.holds_of_wide 4 Try.f4 rfl rfl rfl rfl rfl rfl rfl ⟨rfl, rfl, rfl, rfl, rfl⟩ rfl rfl rfl rfl rfl (by kernel_rfl) Try.func4 (by kernel_rfl)
    (of_decide_eq_true (by kernel_rfl)) (by unfold Func.isWrapper; first | (rw [if_pos (by decide +kernel)]; kernel_rfl) | (rw [if_neg (by decide +kernel)]; exact ⟨rfl, rfl⟩))
    (fun os started H enc _ => lifted os started H enc)

/-- ████ THE STATEMENT ████ -/
theorem proved : Rows.BitinPartsSaid := over
#print axioms proved
end Go.Proofs.Ytjdnkjolbnplaaa.bitinParts
