/-
  What is proved: for every image, mode and place the Go function GuessPlaces of the statements of layer 12 returns true, and its arguments read as before.
  Conditions: none.
-/
import Derived.Test.YtncpoahnhgnokaaRows
import Derived.Test.YtncpoahnhgnokaaGEqf
import Derived.WalkKit
import Derived.ProofKit
import Derived.OpenShut
import Derived.ShutString
import Derived.ChangeOld
import Derived.Below
import Derived.Deep.Grids
import Derived.Lib.SmallJoins
namespace Go.Proofs.Ytncpoahnhgnokaa.guessPlaces
open Go.ChangeShapes Go.WideShapes Go.ChangeAt Go.RowKit
open Go.Proofs.Ytncpoahnhgnokaa.Core Go.Proofs.Ytncpoahnhgnokaa.PNum Go.Proofs.Ytncpoahnhgnokaa.PPrt Go.Proofs.Ytncpoahnhgnokaa.PFun Go.Proofs.Ytncpoahnhgnokaa.PGoo Go.Proofs.Ytncpoahnhgnokaa.GGue Go.Proofs.Ytncpoahnhgnokaa.GImg Go.Proofs.Ytncpoahnhgnokaa.GAro Go.Proofs.Ytncpoahnhgnokaa.GAtt Go.Proofs.Ytncpoahnhgnokaa.GRar Go.Proofs.Ytncpoahnhgnokaa.GRat Go.Proofs.Ytncpoahnhgnokaa.GEqf
open Go.ChangeMaps (open_string shut_string)
set_option linter.unusedVariables false

theorem own : ownKnob Try.prog.godebug = none := by kernel_rfl
theorem laidOut : laidOutB Try.prog = true := by kernel_rfl

/-- A slice of integers that came in: nil, or a row of cells, each fitting its kind. -/
def IsRow (k : IntKind) (w : World) (a : Option Addr) (len cap : Nat) (zs : List Int) : Prop :=
  (a = none ∧ len = 0 ∧ cap = 0 ∧ zs = []) ∨
  ∃ x, a = some x ∧ len ≤ cap ∧ cap ≤ maxLen ∧ zs.length = cap ∧ (∀ i, i < zs.length → w.cell? (x.add i) = some (.int k (zs.getD i 0))) ∧ ∀ n ∈ zs, (Lit.int k n).wf = true
/-- A slice of bools that came in. -/
def IsBools (w : World) (a : Option Addr) (len cap : Nat) (B : Nat → Bool) : Prop :=
  (a = none ∧ len = 0 ∧ cap = 0) ∨ ∃ x, a = some x ∧ len ≤ cap ∧ cap ≤ maxLen ∧ ∀ i, i < cap → w.cell? (x.add i) = some (.bool (B i))
/-- A slice of pixels that came in and holds some: where it lies, and its numbers. -/
theorem pix_of_row {w : World} {a : Option Addr} {len cap : Nat} {zs : List Int} (h : IsRow .u32 w a len cap zs) (h0 : 0 < len) :
    ∃ b off, ∃ z : Nat → Nat, a = some ⟨b, off, none⟩ ∧ Pixs w b off len z := by
  rcases h with ⟨rfl, rfl, rfl, rfl⟩ | ⟨x, rfl, h1, h2, hz, hc, hwf⟩
  · omega
  · obtain ⟨b, off, spot⟩ := x
    have hspot : spot = none := by
      have h0 := hc 0 (by omega)
      simpa [Addr.add] using World.cell?_spot h0
    subst hspot
    refine ⟨b, off, fun i => (zs.getD i 0).toNat, rfl, fun i hi => ?_⟩
    have hb := bounds_u32 (hwf (zs.getD i 0) (by rw [List.getD_eq_getElem?_getD, List.getElem?_eq_getElem (by omega)]; exact List.getElem_mem _))
    rw [← Go.WideShapes.add_plain, hc i (by omega)]
    show some (Value.int .u32 (zs.getD i 0)) = some (Value.int .u32 ((zs.getD i 0).toNat : Int))
    rw [Int.toNat_of_nonneg hb.1]
theorem img_of {w : World} {W H : Int} {a : Option Addr} {len cap : Nat} {zs : List Int} (h : IsRow .u32 w a len cap zs) (hg : gdV W H len = true) :
    ∃ b off, ∃ z : Nat → Nat, ∃ W' H' : Nat, a = some ⟨b, off, none⟩ ∧ W = W' ∧ H = H' ∧ Img w W' H' b off len z := by
  have k : 1 ≤ W ∧ W ≤ 16384 ∧ 1 ≤ H ∧ H ≤ 16384 ∧ (len : Int) = W * H := of_decide_eq_true hg
  obtain ⟨W', rfl⟩ := Int.eq_ofNat_of_zero_le (a := W) (by omega)
  obtain ⟨H', rfl⟩ := Int.eq_ofNat_of_zero_le (a := H) (by omega)
  have e : len = W' * H' := by have := k.2.2.2.2; rw [← Int.natCast_mul] at this; omega
  have p : 0 < W' * H' := Nat.mul_pos (by omega) (by omega)
  obtain ⟨b, off, z, rfl, hp⟩ := pix_of_row h (by omega)
  exact ⟨b, off, z, W', H', rfl, rfl, rfl, by omega, by omega, e, hp⟩
theorem keep_four {w0 w' : World} {g : Nat} {x y s v : Value} (BX : Box w0 g 33 #[x, y, s, v]) (b : Below w0.heap.size w0 w') :
    w'.cell? ⟨g, 0, none⟩ = some x ∧ w'.cell? ⟨g, 1, none⟩ = some y ∧ w'.cell? ⟨g, 2, none⟩ = some s ∧ w'.cell? ⟨g, 3, none⟩ = some v :=
  ⟨((BX.below b BX.lt).cell 0).trans rfl, ((BX.below b BX.lt).cell 1).trans rfl, ((BX.below b BX.lt).cell 2).trans rfl, ((BX.below b BX.lt).cell 3).trans rfl⟩
set_option maxRecDepth 20000 in
set_option maxHeartbeats 1000000 in
theorem walk (a0_0 : Int) (a0_1 : Int) (a0_2 : Option Addr) (len0_2 cap0_2 : Nat) (z0_2 : List Int) (a1 : Int) (a2 : Int) (a3 : Int) (w : World) (w0_0 : (Lit.int .i64 a0_0).wf = true) (w0_1 : (Lit.int .i64 a0_1).wf = true) (w0_2 : IsRow .u32 w a0_2 len0_2 cap0_2 z0_2) (w1 : (Lit.int .i64 a1).wf = true) (w2 : (Lit.int .i64 a2).wf = true) (w3 : (Lit.int .i64 a3).wf = true) :
    Calls Try.prog 4 #[.agg #[.int .i64 a0_0, .int .i64 a0_1, .slice a0_2 len0_2 cap0_2], .int .i64 a1, .int .i64 a2, .int .i64 a3] w fun e w' => e = .returned (.bool true) ∧ Below w.heap.size w w' := by
  have BL := hide ((Below.refl w.heap.size w).alloc (Nat.le_refl _) (.cells #[.int .i64 a0_0, .int .i64 a0_1, .slice a0_2 len0_2 cap0_2] 28))
  have BX := hide (Box.made w 28 #[.int .i64 a0_0, .int .i64 a0_1, .slice a0_2 len0_2 cap0_2])
  clear w0_0 w0_1 w1 w2 w3
  by_cases hbig : 3000 < len0_2
  · go_enter Try.func4, Try.ntmps4
    go_wp2_with fail
    refine (ans7 _).mono ?_
    rintro e w1 ⟨rfl, b1⟩
    have B1 := hide (below_two (unhide BL) b1)
    clear b1
    go_wp2
    go_ret
    exact ⟨rfl, unhide B1⟩
  · have hsm : len0_2 ≤ 3000 := by omega
    clear hbig
    rcases Bool.eq_false_or_eq_true (wiV a0_0 a0_1 len0_2 a2 a3) with hwi | hwi
    · have W0 := wi_of hwi
      obtain ⟨b, off, z, W, H, rfl, rfl, rfl, I⟩ := img_of w0_2 W0.1
      obtain ⟨X, rfl⟩ := Int.eq_ofNat_of_zero_le W0.2.1
      obtain ⟨Y, rfl⟩ := Int.eq_ofNat_of_zero_le W0.2.2.2.1
      have hx : X < W := by omega
      have hy : Y < H := by omega
      have HG := hide W0.1
      have HX := hide hx
      have HY := hide hy
      have HW := hide hwi
      have I0 := hide I
      clear W0 hwi I w0_2
      go_enter Try.func4, Try.ntmps4
      go_wp2_with fail
      refine (around_in cap0_2 X Y ((unhide I0).below (unhide BL)) (unhide HX) (unhide HY) (unhide HW)).mono ?_
      rintro e w1 ⟨rfl, b1⟩
      obtain ⟨c0, c1, c2⟩ := keep_image (unhide BX) b1
      have K1 := hide b1
      have B1 := hide (below_two (unhide BL) b1)
      clear b1
      unfold fourV
      go_wp2_with fail
      refine (at_in cap0_2 a1 X Y ((unhide I0).below (unhide B1)) (unhide HX) (unhide HY) (unhide HW)).mono ?_
      rintro e w2 ⟨rfl, b2⟩
      clear c0 c1 c2
      have K2 := hide (below_two (unhide K1) b2)
      have B2 := hide (below_two (unhide B1) b2)
      obtain ⟨c0, c1, c2⟩ := keep_image (unhide BX) (unhide K2)
      clear b2
      go_wp2_with fail
      refine (rgood25 _ _ _ _ _ _).mono ?_
      rintro e w3 ⟨rfl, b3⟩
      clear c0 c1 c2
      have K3 := hide (below_two (unhide K2) b3)
      have B3 := hide (below_two (unhide B2) b3)
      obtain ⟨c0, c1, c2⟩ := keep_image (unhide BX) (unhide K3)
      clear b3
      rw [unhide HG]
      go_wp2_with fail
      refine (raround13 cap0_2 X Y ((unhide I0).below (unhide B3)) (unhide HX) (unhide HY)).mono ?_
      rintro e w4 ⟨rfl, b4⟩
      clear c0 c1 c2
      have K4 := hide (below_two (unhide K3) b4)
      have B4 := hide (below_two (unhide B3) b4)
      obtain ⟨c0, c1, c2⟩ := keep_image (unhide BX) (unhide K4)
      clear b4
      unfold fourV
      have RA := hide (fun w' => rat14 cap0_2 a1 X Y (W := W) (H := H) (b := b) (off := off) (n := len0_2) (z := z) (w := w'))
      generalize lV W z X Y = l at *
      generalize tV W z X Y = t at *
      generalize uV W z X Y = u at *
      generalize rV W z X Y = r at *
      generalize atV W z a1 X Y = v at *
      go_wp2_with fail
      refine (ans7 _).mono ?_
      rintro e w5 ⟨rfl, b5⟩
      clear c0 c1 c2
      have BY := hide (Box.made w4 33 #[.int .u32 l, .int .u32 t, .int .u32 u, .int .u32 r])
      have K5 := hide (below_two (below_alloc (unhide K4) (.cells #[.int .u32 l, .int .u32 t, .int .u32 u, .int .u32 r] 33)) b5)
      have B5 := hide (below_two (below_alloc (unhide B4) (.cells #[.int .u32 l, .int .u32 t, .int .u32 u, .int .u32 r] 33)) b5)
      obtain ⟨c0, c1, c2⟩ := keep_image (unhide BX) (unhide K5)
      obtain ⟨d0, d1, d2, d3⟩ := keep_four (unhide BY) b5
      have EQ := fun w' => eq_four (l : Int) (t : Int) (u : Int) (r : Int) w'
      clear b5
      go_wp2_with fail
      refine (unhide RA _ ((unhide I0).below (unhide B5)) (unhide HX) (unhide HY)).mono ?_
      rintro e w6 ⟨rfl, b6⟩
      have B6 := hide (below_two (unhide B5) b6)
      clear b6
      go_wp2
      go_ret
      exact ⟨rfl, unhide B6⟩
    · rcases Bool.eq_false_or_eq_true (gdV a0_0 a0_1 len0_2) with hg | hg
      · have HG := hide hg
        by_cases h0 : a2 < 0
        · clear hg
          have HW := hide hwi
          clear hwi w0_2
          go_enter Try.func4, Try.ntmps4
          go_wp2_with fail
          refine (around_no _ _ _ _ _ _ _ _ (unhide HW)).mono ?_
          rintro e w1 ⟨rfl, b1⟩
          obtain ⟨c0, c1, c2⟩ := keep_image (unhide BX) b1
          have K1 := hide b1
          have B1 := hide (below_two (unhide BL) b1)
          clear b1
          unfold fourV
          go_wp2_with fail
          refine (at_no _ _ _ _ _ _ _ _ _ (unhide HW)).mono ?_
          rintro e w2 ⟨rfl, b2⟩
          clear c0 c1 c2
          have K2 := hide (below_two (unhide K1) b2)
          have B2 := hide (below_two (unhide B1) b2)
          obtain ⟨c0, c1, c2⟩ := keep_image (unhide BX) (unhide K2)
          clear b2
          go_wp2_with fail
          refine (rgood25 _ _ _ _ _ _).mono ?_
          rintro e w3 ⟨rfl, b3⟩
          clear c0 c1 c2
          have K3 := hide (below_two (unhide K2) b3)
          have B3 := hide (below_two (unhide B2) b3)
          obtain ⟨c0, c1, c2⟩ := keep_image (unhide BX) (unhide K3)
          clear b3
          rw [unhide HG]
          go_wp2_with fail
          refine (ans7 _).mono ?_
          rintro e w4 ⟨rfl, b4⟩
          have B4 := hide (below_two (unhide B3) b4)
          clear b4
          go_wp2
          go_ret
          exact ⟨rfl, unhide B4⟩
        · by_cases h1 : a3 < 0
          · clear hg
            have HW := hide hwi
            clear hwi w0_2
            go_enter Try.func4, Try.ntmps4
            go_wp2_with fail
            refine (around_no _ _ _ _ _ _ _ _ (unhide HW)).mono ?_
            rintro e w1 ⟨rfl, b1⟩
            obtain ⟨c0, c1, c2⟩ := keep_image (unhide BX) b1
            have K1 := hide b1
            have B1 := hide (below_two (unhide BL) b1)
            clear b1
            unfold fourV
            go_wp2_with fail
            refine (at_no _ _ _ _ _ _ _ _ _ (unhide HW)).mono ?_
            rintro e w2 ⟨rfl, b2⟩
            clear c0 c1 c2
            have K2 := hide (below_two (unhide K1) b2)
            have B2 := hide (below_two (unhide B1) b2)
            obtain ⟨c0, c1, c2⟩ := keep_image (unhide BX) (unhide K2)
            clear b2
            go_wp2_with fail
            refine (rgood25 _ _ _ _ _ _).mono ?_
            rintro e w3 ⟨rfl, b3⟩
            clear c0 c1 c2
            have K3 := hide (below_two (unhide K2) b3)
            have B3 := hide (below_two (unhide B2) b3)
            obtain ⟨c0, c1, c2⟩ := keep_image (unhide BX) (unhide K3)
            clear b3
            rw [unhide HG]
            go_wp2_with fail
            refine (ans7 _).mono ?_
            rintro e w4 ⟨rfl, b4⟩
            have B4 := hide (below_two (unhide B3) b4)
            clear b4
            go_wp2
            go_ret
            exact ⟨rfl, unhide B4⟩
          · by_cases h2 : a0_0 ≤ a2
            · clear hg
              have HW := hide hwi
              clear hwi w0_2
              go_enter Try.func4, Try.ntmps4
              go_wp2_with fail
              refine (around_no _ _ _ _ _ _ _ _ (unhide HW)).mono ?_
              rintro e w1 ⟨rfl, b1⟩
              obtain ⟨c0, c1, c2⟩ := keep_image (unhide BX) b1
              have K1 := hide b1
              have B1 := hide (below_two (unhide BL) b1)
              clear b1
              unfold fourV
              go_wp2_with fail
              refine (at_no _ _ _ _ _ _ _ _ _ (unhide HW)).mono ?_
              rintro e w2 ⟨rfl, b2⟩
              clear c0 c1 c2
              have K2 := hide (below_two (unhide K1) b2)
              have B2 := hide (below_two (unhide B1) b2)
              obtain ⟨c0, c1, c2⟩ := keep_image (unhide BX) (unhide K2)
              clear b2
              go_wp2_with fail
              refine (rgood25 _ _ _ _ _ _).mono ?_
              rintro e w3 ⟨rfl, b3⟩
              clear c0 c1 c2
              have K3 := hide (below_two (unhide K2) b3)
              have B3 := hide (below_two (unhide B2) b3)
              obtain ⟨c0, c1, c2⟩ := keep_image (unhide BX) (unhide K3)
              clear b3
              rw [unhide HG]
              go_wp2_with fail
              refine (ans7 _).mono ?_
              rintro e w4 ⟨rfl, b4⟩
              have B4 := hide (below_two (unhide B3) b4)
              clear b4
              go_wp2
              go_ret
              exact ⟨rfl, unhide B4⟩
            · have h3 : a0_1 ≤ a3 := Int.not_lt.1 fun h4 => by rw [wi_in hg ⟨by omega, by omega, by omega, h4⟩] at hwi; cases hwi
              clear hg
              have HW := hide hwi
              clear hwi w0_2
              go_enter Try.func4, Try.ntmps4
              go_wp2_with fail
              refine (around_no _ _ _ _ _ _ _ _ (unhide HW)).mono ?_
              rintro e w1 ⟨rfl, b1⟩
              obtain ⟨c0, c1, c2⟩ := keep_image (unhide BX) b1
              have K1 := hide b1
              have B1 := hide (below_two (unhide BL) b1)
              clear b1
              unfold fourV
              go_wp2_with fail
              refine (at_no _ _ _ _ _ _ _ _ _ (unhide HW)).mono ?_
              rintro e w2 ⟨rfl, b2⟩
              clear c0 c1 c2
              have K2 := hide (below_two (unhide K1) b2)
              have B2 := hide (below_two (unhide B1) b2)
              obtain ⟨c0, c1, c2⟩ := keep_image (unhide BX) (unhide K2)
              clear b2
              go_wp2_with fail
              refine (rgood25 _ _ _ _ _ _).mono ?_
              rintro e w3 ⟨rfl, b3⟩
              clear c0 c1 c2
              have K3 := hide (below_two (unhide K2) b3)
              have B3 := hide (below_two (unhide B2) b3)
              obtain ⟨c0, c1, c2⟩ := keep_image (unhide BX) (unhide K3)
              clear b3
              rw [unhide HG]
              go_wp2_with fail
              refine (ans7 _).mono ?_
              rintro e w4 ⟨rfl, b4⟩
              have B4 := hide (below_two (unhide B3) b4)
              clear b4
              go_wp2
              go_ret
              exact ⟨rfl, unhide B4⟩
      · have HG := hide hg
        clear hg
        have HW := hide hwi
        clear hwi w0_2
        go_enter Try.func4, Try.ntmps4
        go_wp2_with fail
        refine (around_no _ _ _ _ _ _ _ _ (unhide HW)).mono ?_
        rintro e w1 ⟨rfl, b1⟩
        obtain ⟨c0, c1, c2⟩ := keep_image (unhide BX) b1
        have K1 := hide b1
        have B1 := hide (below_two (unhide BL) b1)
        clear b1
        unfold fourV
        go_wp2_with fail
        refine (at_no _ _ _ _ _ _ _ _ _ (unhide HW)).mono ?_
        rintro e w2 ⟨rfl, b2⟩
        clear c0 c1 c2
        have K2 := hide (below_two (unhide K1) b2)
        have B2 := hide (below_two (unhide B1) b2)
        obtain ⟨c0, c1, c2⟩ := keep_image (unhide BX) (unhide K2)
        clear b2
        go_wp2_with fail
        refine (rgood25 _ _ _ _ _ _).mono ?_
        rintro e w3 ⟨rfl, b3⟩
        clear c0 c1 c2
        have K3 := hide (below_two (unhide K2) b3)
        have B3 := hide (below_two (unhide B2) b3)
        obtain ⟨c0, c1, c2⟩ := keep_image (unhide BX) (unhide K3)
        clear b3
        rw [unhide HG]
        go_wp2_with fail
        refine (ans7 _).mono ?_
        rintro e w4 ⟨rfl, b4⟩
        have B4 := hide (below_two (unhide B3) b4)
        clear b4
        go_wp2
        go_ret
        exact ⟨rfl, unhide B4⟩

set_option maxRecDepth 100000 in
theorem lifted (os : Os) (started : os.Started) (H : Type) (enc : TypeId × Value → H) :
    ReturnsInHanded {} Try.checked os 4 .any (Rows.guessPlacesSpec.pre6 enc Try.prog Try.f4 Rows.guessPlacesRow.domain false) (Rows.guessPlacesSpec.post enc Try.prog Try.f4 false true false false) := by
  refine returnsInHanded_of_change (C := Try.checked) own started (by kernel_rfl) Try.func4
    (ChangeSpec.witness6 (enc := enc) (C := Try.checked) false ⟨#[], #[.agg #[.int .i64 0, .int .i64 0, .slice none 0 0], .int .i64 0, .int .i64 0, .int .i64 0], []⟩ 8 (by kernel_rfl) (by kernel_rfl) (by kernel_rfl) (by kernel_rfl)) ?_
  intro W base args ds gs before hval0 hW hcnd _
  have hval : ∀ (j : Nat) t v, Try.f4.params[j]? = some t → args[j]? = some v → Value.okWide Try.prog W .any base t v := hval0
  have hW' := hW
  obtain ⟨p, q, hA0, hV, rfl, hfz, hnd⟩ := hW
  have hA : DataW.TrodAll enc Try.prog W 0 (fun _ => true) true Try.f4.params.toList args.toList ds p := hA0
  rw [Try.params4] at hA hval
  obtain ⟨v0, vs0, d0, ds0, p0, q0, hargs, rfl, rfl, h0, r0⟩ := trodAll_cons hA
  obtain ⟨v1, vs1, d1, ds1, p1, q1, rfl, rfl, rfl, h1, r1⟩ := trodAll_cons r0
  obtain ⟨v2, vs2, d2, ds2, p2, q2, rfl, rfl, rfl, h2, r2⟩ := trodAll_cons r1
  obtain ⟨v3, vs3, d3, ds3, p3, q3, rfl, rfl, rfl, h3, r3⟩ := trodAll_cons r2
  obtain ⟨rfl, rfl, rfl⟩ := trodAll_nil r3
  obtain rfl : args = #[v0, v1, v2, v3] := by cases args; simp_all
  obtain ⟨rfl, rfl⟩ := trodVars_none hV
  have k0 := h0
  have lt0 : ∀ x ∈ p0, x.block < W.heap.size := by obtain ⟨m, hm⟩ := k0; exact DataW.trod_lt m _ _ _ hm
  obtain ⟨c0_0, c0_1, c0_2, y0_0, y0_1, y0_2, m0, rfl, _, _, hy0_0, hy0_1, hy0_2⟩ := Go.Joins.open_agg3 Try.underlying28 (by kernel_rfl) (by kernel_rfl) (hval 0 28 v0 rfl rfl) h0
  obtain ⟨a0_0, e0_0, _, w0_0⟩ := DataW.trod_int Try.underlying3 hy0_0
  simp only [List.cons.injEq, and_true] at e0_0
  subst e0_0
  obtain ⟨a0_1, e0_1, _, w0_1⟩ := DataW.trod_int Try.underlying3 hy0_1
  simp only [List.cons.injEq, and_true] at e0_1
  subst e0_1
  obtain ⟨a0_2, len0_2, cap0_2, e0_2⟩ := Go.Joins.slice_form Try.underlying26 hy0_2
  simp only [List.cons.injEq, and_true] at e0_2
  subst e0_2
  obtain ⟨z0_2, w0_2⟩ : ∃ zs, IsRow .u32 W a0_2 len0_2 cap0_2 zs := by
    rcases open_ints Try.underlying26 Try.underlying22 (by kernel_rfl) hy0_2 with ⟨hcs, _⟩ | ⟨x, l, c, zs, hcs, _, hl, hm, hz, _, hcell, hwz⟩
    · simp at hcs
      obtain ⟨rfl, rfl, rfl⟩ := hcs
      exact ⟨[], .inl ⟨rfl, rfl, rfl, rfl⟩⟩
    · simp at hcs
      obtain ⟨rfl, rfl, rfl⟩ := hcs
      exact ⟨zs, .inr ⟨_, rfl, hl, hm, by simpa using hz, hcell, hwz⟩⟩
  obtain ⟨a1, rfl, rfl, rfl, w1⟩ := open_int Try.underlying3 (hval 1 3 v1 rfl rfl) h1
  obtain ⟨a2, rfl, rfl, rfl, w2⟩ := open_int Try.underlying3 (hval 2 3 v2 rfl rfl) h2
  obtain ⟨a3, rfl, rfl, rfl, w3⟩ := open_int Try.underlying3 (hval 3 3 v3 rfl rfl) h3
  clear hA0 hval0
  refine (walk a0_0 a0_1 a0_2 len0_2 cap0_2 z0_2 a1 a2 a3 W w0_0 w0_1 w0_2 w1 w2 w3).mono fun e W' ⟨he, bel⟩ => ?_
  subst he
  exact ⟨_, rfl, _, _, _, [], _, [], hW', trodAll_mk1 (shut_bool Try.underlying4 _), (trodAll_cons_mk (Below.trod laidOut (by kernel_rfl) (of_decide_eq_true (by kernel_rfl)) k0 bel lt0) (trodAll_cons_mk (shut_int Try.underlying3 w1) (trodAll_cons_mk (shut_int Try.underlying3 w2) (trodAll_cons_mk (shut_int Try.underlying3 w3) trodAll_mk0)))), rfl, bel.frame _, fun h => by cases h⟩

theorem over : Rows.guessPlacesRow.holds Try.pinned (OpenSpec.ofChange Rows.guessPlacesSpec) :=
  OpenClaim.holds_of_wide 4 Try.f4 rfl rfl rfl rfl rfl rfl rfl ⟨rfl, rfl, rfl, rfl, rfl⟩ rfl rfl rfl rfl rfl (by kernel_rfl) Try.func4 (by kernel_rfl)
    (of_decide_eq_true (by kernel_rfl)) (by unfold Func.isWrapper; first | (rw [if_pos (by decide +kernel)]; kernel_rfl) | (rw [if_neg (by decide +kernel)]; exact ⟨rfl, rfl⟩))
    (fun os started H enc _ => lifted os started H enc)

/-- The statement. -/
theorem proved : Rows.GuessPlacesSaid := over
#print axioms proved
end Go.Proofs.Ytncpoahnhgnokaa.guessPlaces
