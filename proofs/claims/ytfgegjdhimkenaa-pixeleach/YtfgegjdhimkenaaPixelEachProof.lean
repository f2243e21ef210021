/-
  What is proved: for every three pixels and number the Go function PixelEach of the statements of layer 11 returns true, and its arguments read as before.
  Conditions: none.
-/
import Derived.Test.YtfgegjdhimkenaaRows
import Derived.Test.YtfgegjdhimkenaaGoo
import Derived.Test.YtfgegjdhimkenaaMsk
import Derived.WalkKit
import Derived.ProofKit
import Derived.OpenShut
import Derived.ShutString
import Derived.ChangeOld
import Derived.Below
namespace Go.Proofs.Ytfgegjdhimkenaa.pixelEach
open Go.ChangeShapes Go.WideShapes Go.ChangeAt Go.RowKit
open Go.Proofs.Ytfgegjdhimkenaa.Core Go.Proofs.Ytfgegjdhimkenaa.Num Go.Proofs.Ytfgegjdhimkenaa.Prt Go.Proofs.Ytfgegjdhimkenaa.Fun Go.Proofs.Ytfgegjdhimkenaa.Rfn Go.Proofs.Ytfgegjdhimkenaa.Goo Go.Proofs.Ytfgegjdhimkenaa.Msk
open Go.ChangeMaps (open_string shut_string)
set_option linter.unusedVariables false      -- a walk need not use every 'w<i>' (that an integer argument fits its kind)

theorem own : ownKnob Try.prog.godebug = none := by kernel_rfl

theorem facts (p q u : Nat) {i : Nat} (hi : i < 4) (hp : p < 4294967296) (hq : q < 4294967296) (hu : u < 4294967296) :
    ∃ x y z : Nat, bits .and .u32 (p : Int) (msk i) = x ∧ bits .and .u32 (q : Int) (msk i) = y ∧ bits .and .u32 (u : Int) (msk i) = z ∧
      (∃ r : Nat, bits .and .u32 (addV x y : Nat) (msk i) = r ∧ bits .and .u32 (addV p q : Nat) (msk i) = r) ∧
      (∃ r : Nat, bits .and .u32 (subV x y : Nat) (msk i) = r ∧ bits .and .u32 (subV p q : Nat) (msk i) = r) ∧
      (∃ r : Nat, bits .and .u32 (avgV x y : Nat) (msk i) = r ∧ bits .and .u32 (avgV p q : Nat) (msk i) = r) ∧
      (∃ r : Nat, bits .and .u32 (fullV x y z : Nat) (msk i) = r ∧ bits .and .u32 (fullV p q u : Nat) (msk i) = r) ∧
      (∃ r : Nat, bits .and .u32 (halfV x y : Nat) (msk i) = r ∧ bits .and .u32 (halfV p q : Nat) (msk i) = r) :=
  ⟨one i p, one i q, one i u, bits_one p hi hp, bits_one q hi hq, bits_one u hi hu,
    ⟨_, bits_one _ hi (addV_lt _ _), by rw [bits_one _ hi (addV_lt _ _), one_add p q hi]⟩,
    ⟨_, bits_one _ hi (subV_lt _ _), by rw [bits_one _ hi (subV_lt _ _), one_sub p q hi]⟩,
    ⟨_, bits_one _ hi (avgV_lt _ _), by rw [bits_one _ hi (avgV_lt _ _), one_avg p q hi]⟩,
    ⟨_, bits_one _ hi (fullV_lt _ _ _), by rw [bits_one _ hi (fullV_lt _ _ _), one_full p q u hi]⟩,
    ⟨_, bits_one _ hi (halfV_lt _ _), by rw [bits_one _ hi (halfV_lt _ _), one_half p q hi]⟩⟩
set_option maxRecDepth 20000 in
set_option maxHeartbeats 1000000 in
theorem case0 (p q u k : Nat) (w : World) (hp : p < 4294967296) (hq : q < 4294967296) (hu : u < 4294967296) (b3 : 0 ≤ (k : Int) ∧ (k : Int) ≤ 255) (h : k % 4 = 0) :
    Calls Try.prog 7 #[.int .u32 p, .int .u32 q, .int .u32 u, .int .u8 k] w fun e w' => e = .returned (.bool true) ∧ Below w.heap.size w w' := by
  have h' : (k : Int) % 4 = 0 := by omega
  have F := facts p q u (i := 3) (by omega) hp hq hu
  rw [show msk 3 = 255 from rfl] at F
  obtain ⟨x, y, z, XP, XQ, XU, ⟨r1, A1, A2⟩, ⟨r2, S1, S2⟩, ⟨r3, V1, V2⟩, ⟨r4, F1, F2⟩, ⟨r5, H1, H2⟩⟩ := F
  clear hp hq hu h
  go_enter Try.func7, Try.ntmps7
  go_wp2_with fail
  refine (ans9 _).mono ?_
  rintro e w1 ⟨rfl, b1⟩
  have B1 := hide b1
  clear b1
  go_wp2_with fail
  refine (add12 x y _).mono ?_
  rintro e w2 ⟨rfl, b2⟩
  have B2 := hide ((unhide B1).trans (b2.mono (unhide B1).size))
  clear b2
  go_wp2_with fail
  refine (add12 p q _).mono ?_
  rintro e w3 ⟨rfl, b3⟩
  have B3 := hide ((unhide B2).trans (b3.mono (unhide B2).size))
  clear b3
  go_wp2_with fail
  refine (sub14 x y _).mono ?_
  rintro e w4 ⟨rfl, b4⟩
  have B4 := hide ((unhide B3).trans (b4.mono (unhide B3).size))
  clear b4
  go_wp2_with fail
  refine (sub14 p q _).mono ?_
  rintro e w5 ⟨rfl, b5⟩
  have B5 := hide ((unhide B4).trans (b5.mono (unhide B4).size))
  clear b5
  go_wp2_with fail
  refine (avg16 x y _).mono ?_
  rintro e w6 ⟨rfl, b6⟩
  have B6 := hide ((unhide B5).trans (b6.mono (unhide B5).size))
  clear b6
  go_wp2_with fail
  refine (avg16 p q _).mono ?_
  rintro e w7 ⟨rfl, b7⟩
  have B7 := hide ((unhide B6).trans (b7.mono (unhide B6).size))
  clear b7
  go_wp2_with fail
  refine (full22 x y z _).mono ?_
  rintro e w8 ⟨rfl, b8⟩
  have B8 := hide ((unhide B7).trans (b8.mono (unhide B7).size))
  clear b8
  go_wp2_with fail
  refine (full22 p q u _).mono ?_
  rintro e w9 ⟨rfl, b9⟩
  have B9 := hide ((unhide B8).trans (b9.mono (unhide B8).size))
  clear b9
  go_wp2_with fail
  refine (half18 x y _).mono ?_
  rintro e w10 ⟨rfl, b10⟩
  have B10 := hide ((unhide B9).trans (b10.mono (unhide B9).size))
  clear b10
  go_wp2_with fail
  refine (half18 p q _).mono ?_
  rintro e w11 ⟨rfl, b11⟩
  have B11 := hide ((unhide B10).trans (b11.mono (unhide B10).size))
  clear b11
  go_wp2
  go_ret
  exact ⟨rfl, unhide B11⟩
set_option maxRecDepth 20000 in
set_option maxHeartbeats 1000000 in
theorem case1 (p q u k : Nat) (w : World) (hp : p < 4294967296) (hq : q < 4294967296) (hu : u < 4294967296) (b3 : 0 ≤ (k : Int) ∧ (k : Int) ≤ 255) (h : k % 4 = 1) :
    Calls Try.prog 7 #[.int .u32 p, .int .u32 q, .int .u32 u, .int .u8 k] w fun e w' => e = .returned (.bool true) ∧ Below w.heap.size w w' := by
  have h' : (k : Int) % 4 = 1 := by omega
  have F := facts p q u (i := 2) (by omega) hp hq hu
  rw [show msk 2 = 65280 from rfl] at F
  obtain ⟨x, y, z, XP, XQ, XU, ⟨r1, A1, A2⟩, ⟨r2, S1, S2⟩, ⟨r3, V1, V2⟩, ⟨r4, F1, F2⟩, ⟨r5, H1, H2⟩⟩ := F
  clear hp hq hu h
  go_enter Try.func7, Try.ntmps7
  go_wp2_with fail
  refine (ans9 _).mono ?_
  rintro e w1 ⟨rfl, b1⟩
  have B1 := hide b1
  clear b1
  go_wp2_with fail
  refine (add12 x y _).mono ?_
  rintro e w2 ⟨rfl, b2⟩
  have B2 := hide ((unhide B1).trans (b2.mono (unhide B1).size))
  clear b2
  go_wp2_with fail
  refine (add12 p q _).mono ?_
  rintro e w3 ⟨rfl, b3⟩
  have B3 := hide ((unhide B2).trans (b3.mono (unhide B2).size))
  clear b3
  go_wp2_with fail
  refine (sub14 x y _).mono ?_
  rintro e w4 ⟨rfl, b4⟩
  have B4 := hide ((unhide B3).trans (b4.mono (unhide B3).size))
  clear b4
  go_wp2_with fail
  refine (sub14 p q _).mono ?_
  rintro e w5 ⟨rfl, b5⟩
  have B5 := hide ((unhide B4).trans (b5.mono (unhide B4).size))
  clear b5
  go_wp2_with fail
  refine (avg16 x y _).mono ?_
  rintro e w6 ⟨rfl, b6⟩
  have B6 := hide ((unhide B5).trans (b6.mono (unhide B5).size))
  clear b6
  go_wp2_with fail
  refine (avg16 p q _).mono ?_
  rintro e w7 ⟨rfl, b7⟩
  have B7 := hide ((unhide B6).trans (b7.mono (unhide B6).size))
  clear b7
  go_wp2_with fail
  refine (full22 x y z _).mono ?_
  rintro e w8 ⟨rfl, b8⟩
  have B8 := hide ((unhide B7).trans (b8.mono (unhide B7).size))
  clear b8
  go_wp2_with fail
  refine (full22 p q u _).mono ?_
  rintro e w9 ⟨rfl, b9⟩
  have B9 := hide ((unhide B8).trans (b9.mono (unhide B8).size))
  clear b9
  go_wp2_with fail
  refine (half18 x y _).mono ?_
  rintro e w10 ⟨rfl, b10⟩
  have B10 := hide ((unhide B9).trans (b10.mono (unhide B9).size))
  clear b10
  go_wp2_with fail
  refine (half18 p q _).mono ?_
  rintro e w11 ⟨rfl, b11⟩
  have B11 := hide ((unhide B10).trans (b11.mono (unhide B10).size))
  clear b11
  go_wp2
  go_ret
  exact ⟨rfl, unhide B11⟩
set_option maxRecDepth 20000 in
set_option maxHeartbeats 1000000 in
theorem case2 (p q u k : Nat) (w : World) (hp : p < 4294967296) (hq : q < 4294967296) (hu : u < 4294967296) (b3 : 0 ≤ (k : Int) ∧ (k : Int) ≤ 255) (h : k % 4 = 2) :
    Calls Try.prog 7 #[.int .u32 p, .int .u32 q, .int .u32 u, .int .u8 k] w fun e w' => e = .returned (.bool true) ∧ Below w.heap.size w w' := by
  have h' : (k : Int) % 4 = 2 := by omega
  have F := facts p q u (i := 1) (by omega) hp hq hu
  rw [show msk 1 = 16711680 from rfl] at F
  obtain ⟨x, y, z, XP, XQ, XU, ⟨r1, A1, A2⟩, ⟨r2, S1, S2⟩, ⟨r3, V1, V2⟩, ⟨r4, F1, F2⟩, ⟨r5, H1, H2⟩⟩ := F
  clear hp hq hu h
  go_enter Try.func7, Try.ntmps7
  go_wp2_with fail
  refine (ans9 _).mono ?_
  rintro e w1 ⟨rfl, b1⟩
  have B1 := hide b1
  clear b1
  go_wp2_with fail
  refine (add12 x y _).mono ?_
  rintro e w2 ⟨rfl, b2⟩
  have B2 := hide ((unhide B1).trans (b2.mono (unhide B1).size))
  clear b2
  go_wp2_with fail
  refine (add12 p q _).mono ?_
  rintro e w3 ⟨rfl, b3⟩
  have B3 := hide ((unhide B2).trans (b3.mono (unhide B2).size))
  clear b3
  go_wp2_with fail
  refine (sub14 x y _).mono ?_
  rintro e w4 ⟨rfl, b4⟩
  have B4 := hide ((unhide B3).trans (b4.mono (unhide B3).size))
  clear b4
  go_wp2_with fail
  refine (sub14 p q _).mono ?_
  rintro e w5 ⟨rfl, b5⟩
  have B5 := hide ((unhide B4).trans (b5.mono (unhide B4).size))
  clear b5
  go_wp2_with fail
  refine (avg16 x y _).mono ?_
  rintro e w6 ⟨rfl, b6⟩
  have B6 := hide ((unhide B5).trans (b6.mono (unhide B5).size))
  clear b6
  go_wp2_with fail
  refine (avg16 p q _).mono ?_
  rintro e w7 ⟨rfl, b7⟩
  have B7 := hide ((unhide B6).trans (b7.mono (unhide B6).size))
  clear b7
  go_wp2_with fail
  refine (full22 x y z _).mono ?_
  rintro e w8 ⟨rfl, b8⟩
  have B8 := hide ((unhide B7).trans (b8.mono (unhide B7).size))
  clear b8
  go_wp2_with fail
  refine (full22 p q u _).mono ?_
  rintro e w9 ⟨rfl, b9⟩
  have B9 := hide ((unhide B8).trans (b9.mono (unhide B8).size))
  clear b9
  go_wp2_with fail
  refine (half18 x y _).mono ?_
  rintro e w10 ⟨rfl, b10⟩
  have B10 := hide ((unhide B9).trans (b10.mono (unhide B9).size))
  clear b10
  go_wp2_with fail
  refine (half18 p q _).mono ?_
  rintro e w11 ⟨rfl, b11⟩
  have B11 := hide ((unhide B10).trans (b11.mono (unhide B10).size))
  clear b11
  go_wp2
  go_ret
  exact ⟨rfl, unhide B11⟩
set_option maxRecDepth 20000 in
set_option maxHeartbeats 1000000 in
theorem case3 (p q u k : Nat) (w : World) (hp : p < 4294967296) (hq : q < 4294967296) (hu : u < 4294967296) (b3 : 0 ≤ (k : Int) ∧ (k : Int) ≤ 255) (h : k % 4 = 3) :
    Calls Try.prog 7 #[.int .u32 p, .int .u32 q, .int .u32 u, .int .u8 k] w fun e w' => e = .returned (.bool true) ∧ Below w.heap.size w w' := by
  have h' : (k : Int) % 4 = 3 := by omega
  have F := facts p q u (i := 0) (by omega) hp hq hu
  rw [show msk 0 = 4278190080 from rfl] at F
  obtain ⟨x, y, z, XP, XQ, XU, ⟨r1, A1, A2⟩, ⟨r2, S1, S2⟩, ⟨r3, V1, V2⟩, ⟨r4, F1, F2⟩, ⟨r5, H1, H2⟩⟩ := F
  clear hp hq hu h
  go_enter Try.func7, Try.ntmps7
  go_wp2_with fail
  refine (ans9 _).mono ?_
  rintro e w1 ⟨rfl, b1⟩
  have B1 := hide b1
  clear b1
  go_wp2_with fail
  refine (add12 x y _).mono ?_
  rintro e w2 ⟨rfl, b2⟩
  have B2 := hide ((unhide B1).trans (b2.mono (unhide B1).size))
  clear b2
  go_wp2_with fail
  refine (add12 p q _).mono ?_
  rintro e w3 ⟨rfl, b3⟩
  have B3 := hide ((unhide B2).trans (b3.mono (unhide B2).size))
  clear b3
  go_wp2_with fail
  refine (sub14 x y _).mono ?_
  rintro e w4 ⟨rfl, b4⟩
  have B4 := hide ((unhide B3).trans (b4.mono (unhide B3).size))
  clear b4
  go_wp2_with fail
  refine (sub14 p q _).mono ?_
  rintro e w5 ⟨rfl, b5⟩
  have B5 := hide ((unhide B4).trans (b5.mono (unhide B4).size))
  clear b5
  go_wp2_with fail
  refine (avg16 x y _).mono ?_
  rintro e w6 ⟨rfl, b6⟩
  have B6 := hide ((unhide B5).trans (b6.mono (unhide B5).size))
  clear b6
  go_wp2_with fail
  refine (avg16 p q _).mono ?_
  rintro e w7 ⟨rfl, b7⟩
  have B7 := hide ((unhide B6).trans (b7.mono (unhide B6).size))
  clear b7
  go_wp2_with fail
  refine (full22 x y z _).mono ?_
  rintro e w8 ⟨rfl, b8⟩
  have B8 := hide ((unhide B7).trans (b8.mono (unhide B7).size))
  clear b8
  go_wp2_with fail
  refine (full22 p q u _).mono ?_
  rintro e w9 ⟨rfl, b9⟩
  have B9 := hide ((unhide B8).trans (b9.mono (unhide B8).size))
  clear b9
  go_wp2_with fail
  refine (half18 x y _).mono ?_
  rintro e w10 ⟨rfl, b10⟩
  have B10 := hide ((unhide B9).trans (b10.mono (unhide B9).size))
  clear b10
  go_wp2_with fail
  refine (half18 p q _).mono ?_
  rintro e w11 ⟨rfl, b11⟩
  have B11 := hide ((unhide B10).trans (b11.mono (unhide B10).size))
  clear b11
  go_wp2
  go_ret
  exact ⟨rfl, unhide B11⟩

set_option maxRecDepth 20000 in
set_option maxHeartbeats 1000000 in
theorem walk (a0 : Int) (a1 : Int) (a2 : Int) (a3 : Int) (w0 : (Lit.int .u32 a0).wf = true) (w1 : (Lit.int .u32 a1).wf = true) (w2 : (Lit.int .u32 a2).wf = true) (w3 : (Lit.int .u8 a3).wf = true) (w : World) :
    Calls Try.prog 7 #[.int .u32 a0, .int .u32 a1, .int .u32 a2, .int .u8 a3] w fun e w' => e = .returned (.bool true) ∧ Below w.heap.size w w' := by
  have b0 := bounds_u32 w0
  have b1 := bounds_u32 w1
  have b2 := bounds_u32 w2
  have b3 := bounds_u8 w3
  clear w0 w1 w2 w3
  obtain ⟨p, rfl⟩ := Int.eq_ofNat_of_zero_le b0.1
  obtain ⟨q, rfl⟩ := Int.eq_ofNat_of_zero_le b1.1
  obtain ⟨u, rfl⟩ := Int.eq_ofNat_of_zero_le b2.1
  obtain ⟨k, rfl⟩ := Int.eq_ofNat_of_zero_le b3.1
  have : k % 4 = 0 ∨ k % 4 = 1 ∨ k % 4 = 2 ∨ k % 4 = 3 := by omega
  rcases this with h | h | h | h
  · exact case0 p q u k w (by omega) (by omega) (by omega) b3 h
  · exact case1 p q u k w (by omega) (by omega) (by omega) b3 h
  · exact case2 p q u k w (by omega) (by omega) (by omega) b3 h
  · exact case3 p q u k w (by omega) (by omega) (by omega) b3 h

/-! ### THE ROW's STEP: WRITTEN OUT: LEAVE IT -/
set_option maxRecDepth 100000 in
theorem lifted (os : Os) (started : os.Started) (H : Type) (enc : TypeId × Value → H) :
    ReturnsInHanded {} Try.checked os 7 .any (Rows.pixelEachSpec.pre6 enc Try.prog Try.f7 Rows.pixelEachRow.domain false) (Rows.pixelEachSpec.post enc Try.prog Try.f7 false true false false) := by
  refine returnsInHanded_of_change (C := Try.checked) own started (by kernel_rfl) Try.func7
    (ChangeSpec.witness6 (enc := enc) (C := Try.checked) false ⟨#[], #[.int .u32 0, .int .u32 0, .int .u32 0, .int .u8 0], []⟩ 8 (by kernel_rfl) (by kernel_rfl) (by kernel_rfl) (by kernel_rfl)) ?_
  intro W base args ds gs before hval0 hW hcnd _
  have hval : ∀ (j : Nat) t v, Try.f7.params[j]? = some t → args[j]? = some v → Value.okWide Try.prog W .any base t v := hval0
  have hW' := hW
  obtain ⟨p, q, hA0, hV, rfl, hfz, hnd⟩ := hW
  have hA : DataW.TrodAll enc Try.prog W 0 (fun _ => true) true Try.f7.params.toList args.toList ds p := hA0
  rw [Try.params7] at hA hval
  obtain ⟨v0, vs0, d0, ds0, p0, q0, hargs, rfl, rfl, h0, r0⟩ := trodAll_cons hA
  obtain ⟨v1, vs1, d1, ds1, p1, q1, rfl, rfl, rfl, h1, r1⟩ := trodAll_cons r0
  obtain ⟨v2, vs2, d2, ds2, p2, q2, rfl, rfl, rfl, h2, r2⟩ := trodAll_cons r1
  obtain ⟨v3, vs3, d3, ds3, p3, q3, rfl, rfl, rfl, h3, r3⟩ := trodAll_cons r2
  obtain ⟨rfl, rfl, rfl⟩ := trodAll_nil r3
  obtain rfl : args = #[v0, v1, v2, v3] := by cases args; simp_all
  obtain ⟨rfl, rfl⟩ := trodVars_none hV
  obtain ⟨a0, rfl, rfl, rfl, w0⟩ := open_int Try.underlying22 (hval 0 22 v0 rfl rfl) h0
  obtain ⟨a1, rfl, rfl, rfl, w1⟩ := open_int Try.underlying22 (hval 1 22 v1 rfl rfl) h1
  obtain ⟨a2, rfl, rfl, rfl, w2⟩ := open_int Try.underlying22 (hval 2 22 v2 rfl rfl) h2
  obtain ⟨a3, rfl, rfl, rfl, w3⟩ := open_int Try.underlying5 (hval 3 5 v3 rfl rfl) h3
  clear hA0 hval0
  refine (walk a0 a1 a2 a3 w0 w1 w2 w3 W).mono fun e W' ⟨he, bel⟩ => ?_
  subst he
  exact ⟨_, rfl, _, _, _, [], _, [], hW', trodAll_mk1 (shut_bool Try.underlying4 _), (trodAll_cons_mk (shut_int Try.underlying22 w0) (trodAll_cons_mk (shut_int Try.underlying22 w1) (trodAll_cons_mk (shut_int Try.underlying22 w2) (trodAll_cons_mk (shut_int Try.underlying5 w3) trodAll_mk0)))), rfl, bel.frame _, fun h => by cases h⟩

theorem over : Rows.pixelEachRow.holds Try.pinned (OpenSpec.ofChange Rows.pixelEachSpec) :=
  OpenClaim.holds_of_wide 7 Try.f7 rfl rfl rfl rfl rfl rfl rfl ⟨rfl, rfl, rfl, rfl, rfl⟩ rfl rfl rfl rfl rfl (by kernel_rfl) Try.func7 (by kernel_rfl)
    (of_decide_eq_true (by kernel_rfl)) (by unfold Func.isWrapper; first | (rw [if_pos (by decide +kernel)]; kernel_rfl) | (rw [if_neg (by decide +kernel)]; exact ⟨rfl, rfl⟩))
    (fun os started H enc _ => lifted os started H enc)

/-- ████ THE STATEMENT ████ -/
theorem proved : Rows.PixelEachSaid :=
  over
#print axioms proved
end Go.Proofs.Ytfgegjdhimkenaa.pixelEach
