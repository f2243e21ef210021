/-
  What is proved: for every input the Go function BitoutParts of the statements of layer 3 returns true, and its arguments read as before (a number's bits at once are those of its two parts).
  Conditions: none.
-/
import Derived.Test.YtieaglncimfelaaRows
import Derived.Test.YtieaglncimfelaaTwo
import Derived.WalkKit
import Derived.ProofKit
import Derived.OpenShut
import Derived.ShutString
import Derived.ChangeOld
import Derived.Below
namespace Go.Proofs.Ytieaglncimfelaa.bitoutParts
open Go.ChangeShapes Go.WideShapes Go.ChangeAt Go.RowKit
open Go.Proofs.Ytieaglncimfelaa.Core Go.Proofs.Ytieaglncimfelaa.Foot Go.Proofs.Ytieaglncimfelaa.Add Go.Proofs.Ytieaglncimfelaa.Wri Go.Proofs.Ytieaglncimfelaa.Byt Go.Proofs.Ytieaglncimfelaa.Sam Go.Proofs.Ytieaglncimfelaa.Joi Go.Proofs.Ytieaglncimfelaa.Sep Go.Proofs.Ytieaglncimfelaa.Ref Go.Proofs.Ytieaglncimfelaa.Two
open Go.ChangeMaps (open_string shut_string)
set_option linter.unusedVariables false      -- a walk need not use every 'w<i>' (that an integer argument fits its kind)

theorem own : ownKnob Try.prog.godebug = none := by kernel_rfl

theorem pow_bd (x : Nat) (h : x ≤ 16) : (1 : Int) ≤ 2 ^ x ∧ (2 : Int) ^ x ≤ 65536 ∧ (0 < 2 ^ x ∧ 2 ^ x ≤ 65536) := by
  have h1 : (2 : Nat) ^ x ≤ 2 ^ 16 := Nat.pow_le_pow_right (by omega) h
  have h2 : 0 < (2 : Nat) ^ x := Nat.pow_pos (by omega)
  have h3 : ((2 ^ x : Nat) : Int) = (2 : Int) ^ x := by simp
  have h4 : (2 : Nat) ^ 16 = 65536 := by decide
  omega
theorem and_low (v x : Nat) (hv : v ≤ 4294967295) (hx : x ≤ 16) : bits .and .u32 (v : Int) (2 ^ x - 1) = ((v % 2 ^ x : Nat) : Int) := by
  obtain ⟨_, _, p1, p2⟩ := pow_bd x hx
  have e2 : (2 : Int) ^ x - 1 = ((2 ^ x - 1 : Nat) : Int) := by
    have h3 : ((2 ^ x : Nat) : Int) = (2 : Int) ^ x := by simp
    omega
  rw [e2, u32_and_nat _ _ (by omega) (by omega), Nat.and_two_pow_sub_one_eq_mod]
theorem or_high (d l x y : Nat) (hx : x ≤ 16) (hy : y ≤ 16) (hd : d < 2 ^ y) (hl : l < 2 ^ x) : bits .or .u32 ((d : Int) * 2 ^ x) (l : Int) = ((d * 2 ^ x + l : Nat) : Int) ∧ d * 2 ^ x + l ≤ 4294967295 ∧ (0 : Int) ≤ (d : Int) * 2 ^ x ∧ (d : Int) * 2 ^ x ≤ 4294967295 := by
  obtain ⟨_, _, p1, p2⟩ := pow_bd x hx
  obtain ⟨_, _, q1, q2⟩ := pow_bd y hy
  have h5 : d * 2 ^ x ≤ 65535 * 65536 := Nat.mul_le_mul (by omega) (by omega)
  have e1 : (d : Int) * 2 ^ x = ((d * 2 ^ x : Nat) : Int) := by simp
  have h6 : d * 2 ^ x + l ≤ 65535 * 2 ^ x + l := Nat.add_le_add_right (Nat.mul_le_mul_right _ (by omega)) _
  refine ⟨?_, by omega, by omega, by omega⟩
  rw [e1, u32_or_nat _ _ (by omega) (by omega), nat_join x _ _ (by simp) hl]
theorem sum_lt2 (d l x y : Nat) (hd : d < 2 ^ y) (hl : l < 2 ^ x) : d * 2 ^ x + l < 2 ^ (x + y) := by
  have := sum_lt l d x y hl hd
  omega
theorem sum_eq (V N d l x : Nat) : V + (d * 2 ^ x + l) * 2 ^ N = V + l * 2 ^ N + d * 2 ^ (N + x) := by
  rw [Nat.add_mul, Nat.pow_add, Nat.mul_comm (2 ^ N) (2 ^ x), ← Nat.mul_assoc]
  omega
set_option maxRecDepth 20000 in
set_option maxHeartbeats 1000000 in
theorem walk (a0 : Int) (a1 : Int) (a2 : Int) (a3 : Int) (w0 : (Lit.int .u32 a0).wf = true) (w1 : (Lit.int .u8 a1).wf = true) (w2 : (Lit.int .u8 a2).wf = true) (w3 : (Lit.int .u8 a3).wf = true) (w : World) :
    Calls Try.prog 6 #[.int .u32 a0, .int .u8 a1, .int .u8 a2, .int .u8 a3] w fun e w' => e = .returned (.bool true) ∧ Below w.heap.size w w' := by
  have b0 := bounds_u32 w0
  have b1 := bounds_u8 w1
  have b2 := bounds_u8 w2
  have b3 := bounds_u8 w3
  clear w0 w1 w2 w3
  obtain ⟨v, rfl⟩ := Int.eq_ofNat_of_zero_le b0.1
  obtain ⟨x, hx⟩ := Int.eq_ofNat_of_zero_le (show 0 ≤ a1 % 17 by omega)
  obtain ⟨y, hy⟩ := Int.eq_ofNat_of_zero_le (show 0 ≤ a2 % 16 by omega)
  obtain ⟨s, hs⟩ := Int.eq_ofNat_of_zero_le (show 0 ≤ a3 % 9 by omega)
  have xb : x ≤ 16 := by omega
  have yb : y ≤ 15 := by omega
  have sb : s ≤ 8 := by omega
  have vb : v ≤ 4294967295 := by omega
  have hlow := and_low v x vb xb
  have hhigh := and_low (v / 2 ^ x) y (Nat.le_trans (Nat.div_le_self _ _) vb) (by omega)
  have lb : v % 2 ^ x < 2 ^ x := Nat.mod_lt _ (pow_pos2 _)
  have hb : v / 2 ^ x % 2 ^ y < 2 ^ y := Nat.mod_lt _ (pow_pos2 _)
  rw [show ((v / 2 ^ x : Nat) : Int) = (v : Int) / 2 ^ x by simp] at hhigh
  obtain ⟨px1, px2, px3, px4⟩ := pow_bd x xb
  obtain ⟨py1, py2, py3, py4⟩ := pow_bd y (by omega)
  generalize v % 2 ^ x = l at *
  generalize v / 2 ^ x % 2 ^ y = d at *
  obtain ⟨hor, zb, d1, d2⟩ := or_high d l x y xb (by omega) hb lb
  have ZL := hide (sum_lt2 d l x y hb lb)
  have EQ := hide (fun V N => sum_eq V N d l x)
  have LB := hide lb
  have HB := hide hb
  generalize d * 2 ^ x + l = z at *
  have lb' : (l : Int) ≤ 65535 := by omega
  have hb' : (d : Int) ≤ 65535 := by omega
  have exy : (x : Int) + (y : Int) = ((x + y : Nat) : Int) := by omega
  have EXY := hide exy
  have N2 := hide (two_new w)
  clear lb hb px3 px4 py3 py4 exy
  go_enter Try.func6, Try.ntmps6
  go_wp2_with fail
  refine (unhide N2).mono ?_
  rintro e w1 ⟨g, rfl, bel1, next⟩
  have NX := hide next
  have B1 := hide bel1
  clear next bel1 N2
  go_wp2_with fail
  refine (unhide NX).mono ?_
  rintro e w2 ⟨h, rfl, bel2, two2⟩
  have T2 := hide two2
  have B2 := hide bel2
  clear two2 bel2 NX B1
  go_wp2
  go_loopw [13] (fun i wr => ∃ (k V : Nat), k ≤ s ∧ i = .int .i64 k ∧ Two wr w.heap.size g h V k V k ∧ Below w.heap.size w wr) (fun i _ => s - (intOf i).toNat)
  case atStart => exact ⟨0, 0, Nat.zero_le _, rfl, unhide T2, unhide B2⟩
  case round =>
    obtain ⟨k, V, hk, rfl, two, bel⟩ := hrel
    have T3 := hide two
    have B3 := hide bel
    clear two bel T2 B2
    by_cases hlt : k < s
    · have hlt' : (k : Int) < (s : Int) := by omega
      go_wp2_with fail
      refine (two_bits wr w.heap.size g h V k V k 1 1 (unhide T3) (by omega) (by omega) (by omega)).mono ?_
      rintro e w4 ⟨rfl, two4, bel4⟩
      have T4 := hide two4
      have B4 := hide ((unhide B3).trans bel4)
      clear two4 bel4 T3 B3
      go_wp2_with fail
      refine (two_bits2 w4 w.heap.size g h _ _ V k 1 1 (unhide T4) (by omega) (by omega) (by omega)).mono ?_
      rintro e w5 ⟨rfl, two5, bel5⟩
      have T5 := hide two5
      have B5 := hide ((unhide B4).trans bel5)
      clear two5 bel5 T4 B4
      go_wp2
      go_roundw
      case rel => exact ⟨k + 1, _, by omega, by go_num, unhide T5, unhide B5⟩
      case measure => simp [intOf]; omega
    · obtain rfl : k = s := by omega
      go_wp2_with fail
      rw [unhide EXY]
      refine (two_bits wr w.heap.size g h V k V k z (x + y) (unhide T3) (by omega) (unhide ZL) (by omega)).mono ?_
      rintro e w4 ⟨rfl, two4, bel4⟩
      have T4 := hide two4
      have B4 := hide ((unhide B3).trans bel4)
      clear two4 bel4 T3 B3
      go_wp2_with fail
      refine (two_bits2 w4 w.heap.size g h _ _ V k l x (unhide T4) (by omega) (unhide LB) (by omega)).mono ?_
      rintro e w5 ⟨rfl, two5, bel5⟩
      have T5 := hide two5
      have B5 := hide ((unhide B4).trans bel5)
      clear two5 bel5 T4 B4
      go_wp2_with fail
      refine (two_bits2 w5 w.heap.size g h _ _ _ _ d y (unhide T5) (by omega) (unhide HB) (by omega)).mono ?_
      rintro e w6 ⟨rfl, two6, bel6⟩
      rw [← unhide EQ V k, show k + x + y = k + (x + y) by omega] at two6
      have T6 := hide two6
      have B6 := hide ((unhide B5).trans bel6)
      clear two6 bel6 T5 B5
      go_wp2_with fail
      refine (ans7 _).mono ?_
      rintro e w7 ⟨rfl, bel7⟩
      have T7 := hide ((unhide T6).below bel7)
      have B7 := hide ((unhide B6).trans (bel7.mono (unhide B6).size))
      clear bel7 T6 B6
      go_wp2_with fail
      refine (two_len w7 w.heap.size g h _ _ _ _ (unhide T7) (by omega)).mono ?_
      rintro e w8 ⟨rfl, n8, rfl⟩
      have T8 := hide ((unhide T7).drewN n8)
      have B8 := hide (below_drewN (unhide B7) n8)
      clear T7 B7
      generalize w7.drewN n8 = w8 at *
      go_wp2_with fail
      refine (two_len w8 w.heap.size h g _ _ _ _ (unhide T8).symm (by omega)).mono ?_
      rintro e w9 ⟨rfl, n9, rfl⟩
      have T9 := hide ((unhide T8).drewN n9)
      have B9 := hide (below_drewN (unhide B8) n9)
      clear T8 B8
      generalize w8.drewN n9 = w9 at *
      go_wp2_with fail
      refine (two_bytes w9 w.heap.size g h _ _ _ _ (unhide T9) (by omega)).mono ?_
      rintro e w10 ⟨v10, rfl, src10, bel10⟩
      have S10 := hide src10
      have T10 := hide ((unhide T9).below bel10)
      have B10 := hide ((unhide B9).trans (bel10.mono (unhide B9).size))
      clear src10 bel10 T9 B9
      go_wp2_with fail
      refine (two_bytes w10 w.heap.size h g _ _ _ _ (unhide T10).symm (by omega)).mono ?_
      rintro e w11 ⟨v11, rfl, src11, bel11⟩
      have S11 := hide src11
      have R11 := hide ((unhide S10).keep (Upd.ofBelow (S := fun _ => False) bel11) (fun _ h => h.elim))
      have B11 := hide ((unhide B10).trans (bel11.mono (unhide B10).size))
      clear src11 bel11 T10 B10 S10
      go_wp2_with fail
      refine (same12 v10 v11 _ _ w11 (unhide R11) (unhide S11) (by omega)).mono ?_
      rintro e w12 ⟨rfl, n12, rfl⟩
      go_wp2
      go_ret
      exact ⟨rfl, below_drewN (unhide B11) n12⟩

/-! ### THE ROW's STEP: WRITTEN OUT: LEAVE IT -/
set_option maxRecDepth 100000 in
theorem lifted (os : Os) (started : os.Started) (H : Type) (enc : TypeId × Value → H) :
    ReturnsInHanded {} Try.checked os 6 .any (Rows.bitoutPartsSpec.pre6 enc Try.prog Try.f6 Rows.bitoutPartsRow.domain false) (Rows.bitoutPartsSpec.post enc Try.prog Try.f6 false true false false) := by
  refine returnsInHanded_of_change (C := Try.checked) own started (by kernel_rfl) Try.func6
    (ChangeSpec.witness6 (enc := enc) (C := Try.checked) false ⟨#[], #[.int .u32 0, .int .u8 0, .int .u8 0, .int .u8 0], []⟩ 8 (by kernel_rfl) (by kernel_rfl) (by kernel_rfl) (by kernel_rfl)) ?_
  intro W base args ds gs before hval0 hW hcnd _
  have hval : ∀ (j : Nat) t v, Try.f6.params[j]? = some t → args[j]? = some v → Value.okWide Try.prog W .any base t v := hval0
  have hW' := hW
  obtain ⟨p, q, hA0, hV, rfl, hfz, hnd⟩ := hW
  have hA : DataW.TrodAll enc Try.prog W 0 (fun _ => true) true Try.f6.params.toList args.toList ds p := hA0
  rw [Try.params6] at hA hval
  obtain ⟨v0, vs0, d0, ds0, p0, q0, hargs, rfl, rfl, h0, r0⟩ := trodAll_cons hA
  obtain ⟨v1, vs1, d1, ds1, p1, q1, rfl, rfl, rfl, h1, r1⟩ := trodAll_cons r0
  obtain ⟨v2, vs2, d2, ds2, p2, q2, rfl, rfl, rfl, h2, r2⟩ := trodAll_cons r1
  obtain ⟨v3, vs3, d3, ds3, p3, q3, rfl, rfl, rfl, h3, r3⟩ := trodAll_cons r2
  obtain ⟨rfl, rfl, rfl⟩ := trodAll_nil r3
  obtain rfl : args = #[v0, v1, v2, v3] := by cases args; simp_all
  obtain ⟨rfl, rfl⟩ := trodVars_none hV
  obtain ⟨a0, rfl, rfl, rfl, w0⟩ := open_int Try.underlying29 (hval 0 29 v0 rfl rfl) h0
  obtain ⟨a1, rfl, rfl, rfl, w1⟩ := open_int Try.underlying5 (hval 1 5 v1 rfl rfl) h1
  obtain ⟨a2, rfl, rfl, rfl, w2⟩ := open_int Try.underlying5 (hval 2 5 v2 rfl rfl) h2
  obtain ⟨a3, rfl, rfl, rfl, w3⟩ := open_int Try.underlying5 (hval 3 5 v3 rfl rfl) h3
  clear hA0 hval0
  refine (walk a0 a1 a2 a3 w0 w1 w2 w3 W).mono fun e W' ⟨he, bel⟩ => ?_
  subst he
  exact ⟨_, rfl, _, _, _, [], _, [], hW', trodAll_mk1 (shut_bool Try.underlying4 _), (trodAll_cons_mk (shut_int Try.underlying29 w0) (trodAll_cons_mk (shut_int Try.underlying5 w1) (trodAll_cons_mk (shut_int Try.underlying5 w2) (trodAll_cons_mk (shut_int Try.underlying5 w3) trodAll_mk0)))), rfl, bel.frame _, fun h => by cases h⟩

theorem over : Rows.bitoutPartsRow.holds Try.pinned (OpenSpec.ofChange Rows.bitoutPartsSpec) :=
  OpenClaim.holds_of_wide 6 Try.f6 rfl rfl rfl rfl rfl rfl rfl ⟨rfl, rfl, rfl, rfl, rfl⟩ rfl rfl rfl rfl rfl (by kernel_rfl) Try.func6 (by kernel_rfl)
    (of_decide_eq_true (by kernel_rfl)) (by unfold Func.isWrapper; first | (rw [if_pos (by decide +kernel)]; kernel_rfl) | (rw [if_neg (by decide +kernel)]; exact ⟨rfl, rfl⟩))
    (fun os started H enc _ => lifted os started H enc)

/-- ████ THE STATEMENT ████ -/
theorem proved : Rows.BitoutPartsSaid :=
  over
#print axioms proved
end Go.Proofs.Ytieaglncimfelaa.bitoutParts
