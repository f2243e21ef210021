/-
  What is proved: for every image, mode, place and pixel the Go function GuessAhead of the statements of layer 12 returns true, and its arguments read as before.
  Conditions: none.
-/
import Derived.Test.YtncpoahnhgnokaaRows
import Derived.Test.YtncpoahnhgnokaaGCpy
import Derived.WalkKit
import Derived.ProofKit
import Derived.OpenShut
import Derived.ShutString
import Derived.ChangeOld
import Derived.Below
import Derived.Deep.Grids
import Derived.Lib.SmallJoins
namespace Go.Proofs.Ytncpoahnhgnokaa.guessAhead
open Go.ChangeShapes Go.WideShapes Go.ChangeAt Go.RowKit
open Go.Proofs.Ytncpoahnhgnokaa.Core Go.Proofs.Ytncpoahnhgnokaa.PNum Go.Proofs.Ytncpoahnhgnokaa.PPrt Go.Proofs.Ytncpoahnhgnokaa.PFun Go.Proofs.Ytncpoahnhgnokaa.PGoo Go.Proofs.Ytncpoahnhgnokaa.GGue Go.Proofs.Ytncpoahnhgnokaa.GImg Go.Proofs.Ytncpoahnhgnokaa.GAro Go.Proofs.Ytncpoahnhgnokaa.GAtt Go.Proofs.Ytncpoahnhgnokaa.GRar Go.Proofs.Ytncpoahnhgnokaa.GRat Go.Proofs.Ytncpoahnhgnokaa.GCpy
open Go.ChangeMaps (open_string shut_string)
set_option linter.unusedVariables false

theorem own : ownKnob Try.prog.godebug = none := by kernel_rfl
theorem laidOut : laidOutB Try.prog = true := by kernel_rfl

/-- A slice of integers that came in: nil, or a row of cells, each fitting its kind. -/
def IsRow (k : IntKind) (w : World) (a : Option Addr) (len cap : Nat) (zs : List Int) : Prop :=
  (a = none ∧ len = 0 ∧ cap = 0 ∧ zs = []) ∨
  ∃ x, a = some x ∧ len ≤ cap ∧ cap ≤ maxLen ∧ zs.length = cap ∧ (∀ i, i < zs.length → w.cell? (x.add i) = some (.int k (zs.getD i 0))) ∧ ∀ n ∈ zs, (Lit.int k n).wf = true
/-- A slice of bools that came in. -/
def IsBools (w : World) (a : Option Addr) (len cap : Nat) (B : Nat → Bool) : Prop :=
  (a = none ∧ len = 0 ∧ cap = 0) ∨ ∃ x, a = some x ∧ len ≤ cap ∧ cap ≤ maxLen ∧ ∀ i, i < cap → w.cell? (x.add i) = some (.bool (B i))
/-- A slice of pixels that came in and holds some: where it lies, and its numbers. -/
theorem pix_of_row {w : World} {a : Option Addr} {len cap : Nat} {zs : List Int} (h : IsRow .u32 w a len cap zs) (h0 : 0 < len) :
    ∃ b off, ∃ z : Nat → Nat, a = some ⟨b, off, none⟩ ∧ Pixs w b off len z := by
  rcases h with ⟨rfl, rfl, rfl, rfl⟩ | ⟨x, rfl, h1, h2, hz, hc, hwf⟩
  · omega
  · obtain ⟨b, off, spot⟩ := x
    have hspot : spot = none := by
      have h0 := hc 0 (by omega)
      simpa [Addr.add] using World.cell?_spot h0
    subst hspot
    refine ⟨b, off, fun i => (zs.getD i 0).toNat, rfl, fun i hi => ?_⟩
    have hb := bounds_u32 (hwf (zs.getD i 0) (by rw [List.getD_eq_getElem?_getD, List.getElem?_eq_getElem (by omega)]; exact List.getElem_mem _))
    rw [← Go.WideShapes.add_plain, hc i (by omega)]
    show some (Value.int .u32 (zs.getD i 0)) = some (Value.int .u32 ((zs.getD i 0).toNat : Int))
    rw [Int.toNat_of_nonneg hb.1]
theorem img_of {w : World} {W H : Int} {a : Option Addr} {len cap : Nat} {zs : List Int} (h : IsRow .u32 w a len cap zs) (hg : gdV W H len = true) :
    ∃ b off, ∃ z : Nat → Nat, ∃ W' H' : Nat, a = some ⟨b, off, none⟩ ∧ W = W' ∧ H = H' ∧ Img w W' H' b off len z := by
  have k : 1 ≤ W ∧ W ≤ 16384 ∧ 1 ≤ H ∧ H ≤ 16384 ∧ (len : Int) = W * H := of_decide_eq_true hg
  obtain ⟨W', rfl⟩ := Int.eq_ofNat_of_zero_le (a := W) (by omega)
  obtain ⟨H', rfl⟩ := Int.eq_ofNat_of_zero_le (a := H) (by omega)
  have e : len = W' * H' := by have := k.2.2.2.2; rw [← Int.natCast_mul] at this; omega
  have p : 0 < W' * H' := Nat.mul_pos (by omega) (by omega)
  obtain ⟨b, off, z, rfl, hp⟩ := pix_of_row h (by omega)
  exact ⟨b, off, z, W', H', rfl, rfl, rfl, by omega, by omega, e, hp⟩
/-- The copy, its pixels from k up to j turned into o. -/
structure Ahd (w : World) (W H n k o g g' c : Nat) (z : Nat → Nat) (j : Nat) (wr : World) : Prop where
  box : Box wr g 28 #[.int .i64 W, .int .i64 H, .slice (some ⟨g', 0, none⟩) n c]
  row : Pow wr g' n (fun i => if k ≤ i ∧ i < j then o else z i)
  bel : Below w.heap.size w wr
theorem Ahd.next {w wr : World} {W H n k o g g' c j : Nat} {z : Nat → Nat} (h : Ahd w W H n k o g g' c z j wr) (hkj : k ≤ j) (hg : g ≠ g') (h2 : w.heap.size ≤ g') : Ahd w W H n k o g g' c z (j + 1) (wr.setCell ⟨g', j, none⟩ (.int .u32 o)) :=
  ⟨h.box.other hg _, (h.row.set j o).congr fun i _ => by
    by_cases e : i = j
    · rw [if_pos e, if_pos (by omega)]
    · rw [if_neg e]
      by_cases e2 : k ≤ i ∧ i < j
      · rw [if_pos e2, if_pos (by omega)]
      · rw [if_neg e2, if_neg (by omega)], h.bel.setCell (p := ⟨g', j, none⟩) h2 _⟩
theorem gd_of {W H : Nat} {n : Nat} (h : gdV W H n = true) : 1 ≤ W ∧ 1 ≤ H := by
  have k : 1 ≤ (W : Int) ∧ (W : Int) ≤ 16384 ∧ 1 ≤ (H : Int) ∧ (H : Int) ≤ 16384 ∧ (n : Int) = W * H := of_decide_eq_true h
  omega
theorem Img.pos {w : World} {W H b off n : Nat} {z : Nat → Nat} (I : Img w W H b off n z) (h : 1 ≤ W ∧ 1 ≤ H) : 0 < n := by rw [I.hn]; exact Nat.mul_pos h.1 h.2
set_option maxRecDepth 20000 in
set_option maxHeartbeats 1000000 in
theorem walk (a0_0 : Int) (a0_1 : Int) (a0_2 : Option Addr) (len0_2 cap0_2 : Nat) (z0_2 : List Int) (a1 : Int) (a2 : Int) (a3 : Int) (w : World) (w0_0 : (Lit.int .i64 a0_0).wf = true) (w0_1 : (Lit.int .i64 a0_1).wf = true) (w0_2 : IsRow .u32 w a0_2 len0_2 cap0_2 z0_2) (w1 : (Lit.int .i64 a1).wf = true) (w2 : (Lit.int .u16 a2).wf = true) (w3 : (Lit.int .u32 a3).wf = true) :
    Calls Try.prog 5 #[.agg #[.int .i64 a0_0, .int .i64 a0_1, .slice a0_2 len0_2 cap0_2], .int .i64 a1, .int .u16 a2, .int .u32 a3] w fun e w' => e = .returned (.bool true) ∧ Below w.heap.size w w' := by
  have BL := hide ((Below.refl w.heap.size w).alloc (Nat.le_refl _) (.cells #[.int .i64 a0_0, .int .i64 a0_1, .slice a0_2 len0_2 cap0_2] 28))
  have BX := hide (Box.made w 28 #[.int .i64 a0_0, .int .i64 a0_1, .slice a0_2 len0_2 cap0_2])
  have bq := bounds_u16 w2
  have bo := bounds_u32 w3
  clear w0_0 w0_1 w1 w2 w3
  obtain ⟨q, rfl⟩ := Int.eq_ofNat_of_zero_le bq.1
  obtain ⟨o, rfl⟩ := Int.eq_ofNat_of_zero_le bo.1
  have hq : q < 65536 := by omega
  clear bq bo
  rcases Bool.eq_false_or_eq_true (gdV a0_0 a0_1 len0_2) with hg | hg
  · have HG := hide hg
    by_cases hbig : 3000 < len0_2
    · clear hg
      clear w0_2
      go_enter Try.func5, Try.ntmps5
      go_wp2_with fail
      refine (rgood25 _ _ _ _ _ _).mono ?_
      rintro e w1 ⟨rfl, b1⟩
      obtain ⟨c0, c1, c2⟩ := keep_image (unhide BX) b1
      have B1 := hide (below_two (unhide BL) b1)
      clear b1
      rw [unhide HG]
      go_wp2_with fail
      refine (ans7 _).mono ?_
      rintro e w2 ⟨rfl, b2⟩
      have B2 := hide (below_two (unhide B1) b2)
      clear b2
      go_wp2
      go_ret
      exact ⟨rfl, unhide B2⟩
    · have hsm : len0_2 ≤ 3000 := by omega
      clear hbig
      obtain ⟨b, off, z, W, H, rfl, rfl, rfl, I⟩ := img_of w0_2 hg
      have hWH := gd_of hg
      have hn0 : 0 < len0_2 := Img.pos I hWH
      have hW0 : 0 < W := by omega
      have hW1 := I.hW
      obtain ⟨k, ek, hk⟩ : ∃ k : Nat, ((q : Int)).tmod (len0_2 : Int) = (k : Int) ∧ k < len0_2 := ⟨q % len0_2, rfl, Nat.mod_lt _ hn0⟩
      obtain ⟨X, Y, eX, eY, hX, hY, hkXY⟩ : ∃ X Y : Nat, ((k : Int)).tmod (W : Int) = (X : Int) ∧ ((k : Int)).tdiv (W : Int) = (Y : Int) ∧ X < W ∧ Y < H ∧ k = Y * W + X :=
        ⟨k % W, k / W, rfl, rfl, Nat.mod_lt _ hW0, Nat.div_lt_of_lt_mul (I.hn ▸ hk), (Nat.div_add_mod' k W).symm⟩
      have hYs : Y ≤ 16384 := by have := I.hH; omega
      have I0 := hide I
      have HX := hide hX
      have HY := hide hY
      have HK := hide hkXY
      have HW := hide (wi_in (x := X) (y := Y) hg (by omega))
      clear hg I hX hY hkXY hWH w0_2
      go_enter Try.func5, Try.ntmps5
      go_wp2_with fail
      refine (rgood25 _ _ _ _ _ _).mono ?_
      rintro e w1 ⟨rfl, b1⟩
      obtain ⟨c0, c1, c2⟩ := keep_image (unhide BX) b1
      have K1 := hide b1
      have B1 := hide (below_two (unhide BL) b1)
      have I1 := hide ((unhide I0).below (unhide B1))
      have BC := hide ((unhide BX).below b1 (unhide BX).lt)
      clear b1
      have hbs := (unhide BC).lt
      rw [unhide HG]
      go_upto_region 4 with fail
      go_cut [10] from 28 to 36 (fun v wx => Cpy w1 W H len0_2 z v wx)
      case first =>
        go_region_held3 (fun w' => w'.cell? ⟨w.heap.size, 0, none⟩ = some (.int .i64 W) ∧ w'.cell? ⟨w.heap.size, 1, none⟩ = some (.int .i64 H) ∧ w'.cell? ⟨w.heap.size, 2, none⟩ = some (.slice (some ⟨b, off, none⟩) len0_2 cap0_2)) (first | go_keep | exact ⟨c04, c14, c24⟩ | exact keep3 (by omega) ⟨c04, c14, c24⟩) ((refine step_copy rfl (.tmp 32) (.tmp 34) rfl _ rfl b off len0_2 cap0_2 z rfl ((unhide I1).px.below (by first | exact bel_dr (bel_a1 _ _) | exact bel_dr (bel_a2 _ _ _) | exact bel_a1 _ _ | exact bel_a2 _ _ _)) hn0 (by omega) ?_; intro v4 w4 own4 gr4; have B4 : Hid (Below w1.heap.size w1 w4) := hide (bel_gr (by first | exact bel_dr (bel_a1 _ _) | exact bel_dr (bel_a2 _ _ _) | exact bel_a1 _ _ | exact bel_a2 _ _ _) gr4 (by first | (simp; done) | (simp; omega))); obtain ⟨c04, c14, c24⟩ := keep_image (unhide BC) (unhide B4); obtain ⟨g4, p4, rfl, pw4, l4, t4⟩ := own_pow own4 hn0; have P4 := hide pw4; have L4 := hide l4; have T4 := hide t4; have hb4 : w.heap.size < w4.heap.size := Nat.lt_of_lt_of_le hbs (unhide B4).size; (first | (have n4 := box_a gr4; have N4 := hide n4; obtain ⟨⟨z04, z14, z24⟩, y04, y14, y24⟩ := box_cells n4; clear n4) | (have n4 := box_b gr4; have N4 := hide n4; obtain ⟨⟨z04, z14, z24⟩, y04, y14, y24⟩ := box_cells n4; clear n4) | skip); clear own4 gr4 pw4 l4 t4))
        all_goals go_wp2_with fail
        all_goals go_meet
        all_goals first | exact cpy_mk (unhide P4) (Nat.le_trans (by first | (simp; done) | (simp; omega)) (unhide L4)) (unhide T4) (unhide B4) | exact cpy_set (unhide N4) (unhide P4) (by have h := unhide L4; simp at h; omega) (by have h := unhide L4; simp at h; omega) (by omega) (unhide B4)
      case rest =>
        obtain ⟨⟨g, c, g', rfl, bx, pw, hne, h1, h2⟩, bel⟩ := hcut
        have A0 : Hid (Ahd w1 W H len0_2 k o g g' c z k wc) := hide ⟨bx, pw.congr (fun i _ => by rw [if_neg (by omega)]), bel⟩
        have HNE := hide hne
        have H2 := hide h2
        obtain ⟨⟨d0, d1, d2⟩, _⟩ := box_cells bx
        clear bx pw bel hne h1 h2 c0 c1 c2
        go_wp2_with fail
        go_loopw [11] (fun i wr => ∃ j : Nat, k ≤ j ∧ j ≤ len0_2 ∧ i = .int .i64 j ∧ Ahd w1 W H len0_2 k o g g' c z j wr) (fun i _ => len0_2 - (intOf i).toNat)
        case atStart => exact ⟨k, Nat.le_refl _, by omega, rfl, unhide A0⟩
        case round =>
          obtain ⟨j, hkj, hj, rfl, A⟩ := hrel
          clear d0 d1 d2 A0
          obtain ⟨⟨d0, d1, d2⟩, _⟩ := box_cells A.box
          have AA := hide A
          have HKJ := hide hkj
          by_cases hlt : j < len0_2
          · have hlt' : (j : Int) < (len0_2 : Int) := by omega
            obtain ⟨v, cj⟩ : ∃ v, wr.cell? ⟨g', j, none⟩ = some (.int .u32 v) := ⟨_, (A.row j hlt).1⟩
            have fj := (A.row j hlt).2
            clear A
            go_wp2
            go_roundw
            case rel => exact ⟨j + 1, by omega, by omega, by go_num, (unhide AA).next (unhide HKJ) (unhide HNE) (unhide H2)⟩
            case measure => simp [intOf]; omega
          · have hnl : ¬ (j : Int) < (len0_2 : Int) := by omega
            obtain rfl : j = len0_2 := by omega
            have K2 := hide (below_two (unhide K1) A.bel)
            have B2 := hide (below_two (unhide B1) A.bel)
            obtain ⟨c0, c1, c2⟩ := keep_image (unhide BX) (unhide K2)
            have IM := hide ((unhide I0).below (unhide B2))
            have IN : Hid (Img wr W H g' 0 j (fun i => if k ≤ i ∧ i < j then o else z i)) := hide ⟨(unhide I0).hW, (unhide I0).hH, (unhide I0).hn, A.row.pixs⟩
            have EV := hide (at_ahead (z := fun i => if k ≤ i ∧ i < j then o else z i) (z' := z) a1 (unhide HX) (unhide HK) (fun i hi => if_neg (by omega)))
            have k0 := cell_regrown c0
            have k1 := cell_regrown c1
            have k2 := cell_regrown c2
            have l0 := cell_regrown d0
            have l1 := cell_regrown d1
            have l2 := cell_regrown d2
            have q0 : ∀ d os, Calls Try.prog 7 #[] (Go.Sort.grow (redrawn wr d) os) fun e w'' => e = .returned (.bool true) ∧ ∃ p : Regrown, w'' = Go.Sort.grow (redrawn wr p.d) p.os := fun d os =>
              Calls.regrown_of (ans7 _)
            have q1 : ∀ d os, Calls Try.prog 11 #[.agg #[.int .i64 W, .int .i64 H, .slice (some ⟨b, off, none⟩) j cap0_2], .int .i64 a1, .int .i64 X, .int .i64 Y] (Go.Sort.grow (redrawn wr d) os) fun e w'' => e = .returned (.int .u32 (atV W z a1 X Y)) ∧ ∃ p : Regrown, w'' = Go.Sort.grow (redrawn wr p.d) p.os := fun d os =>
              Calls.regrown_of (at_in _ _ _ _ ((unhide IM).below (below_regrown wr d os)) (unhide HX) (unhide HY) (unhide HW))
            have q2 : ∀ d os, Calls Try.prog 11 #[.agg #[.int .i64 W, .int .i64 H, .slice (some ⟨g', 0, none⟩) j c], .int .i64 a1, .int .i64 X, .int .i64 Y] (Go.Sort.grow (redrawn wr d) os) fun e w'' => e = .returned (.int .u32 (atV W z a1 X Y)) ∧ ∃ p : Regrown, w'' = Go.Sort.grow (redrawn wr p.d) p.os := fun d os => by
              rw [← unhide EV]
              exact Calls.regrown_of (at_in _ _ _ _ ((unhide IN).below (below_regrown wr d os)) (unhide HX) (unhide HY) (unhide HW))
            have Q0 := hide q0
            have Q1 := hide q1
            have Q2 := hide q2
            clear q0 q1 q2 A
            generalize atV W z a1 X Y = v at *
            go_wp2_with fail
            refine wp_region_quiet_below (by kernel_rfl) (by kernel_rfl) ?_
            repeat (go_big_quiet_step (first | (go_at_call 7; with_reducible exact unhide Q0 _ _) | (go_at_call 11; with_reducible exact unhide Q1 _ _) | (go_at_call 11; with_reducible exact unhide Q2 _ _)))
            refine wpQuiet_nil ?_
            intro _ hw'
            obtain ⟨⟨dq, osq⟩, hw''⟩ := hw'
            subst hw''
            go_wp2
            go_ret
            exact ⟨rfl, below_two (unhide B2) (below_regrown wr dq osq)⟩
  · have HG := hide hg
    clear hg
    clear w0_2
    go_enter Try.func5, Try.ntmps5
    go_wp2_with fail
    refine (rgood25 _ _ _ _ _ _).mono ?_
    rintro e w1 ⟨rfl, b1⟩
    obtain ⟨c0, c1, c2⟩ := keep_image (unhide BX) b1
    have B1 := hide (below_two (unhide BL) b1)
    clear b1
    rw [unhide HG]
    go_wp2_with fail
    refine (ans7 _).mono ?_
    rintro e w2 ⟨rfl, b2⟩
    have B2 := hide (below_two (unhide B1) b2)
    clear b2
    go_wp2
    go_ret
    exact ⟨rfl, unhide B2⟩

set_option maxRecDepth 100000 in
theorem lifted (os : Os) (started : os.Started) (H : Type) (enc : TypeId × Value → H) :
    ReturnsInHanded {} Try.checked os 5 .any (Rows.guessAheadSpec.pre6 enc Try.prog Try.f5 Rows.guessAheadRow.domain false) (Rows.guessAheadSpec.post enc Try.prog Try.f5 false true false false) := by
  refine returnsInHanded_of_change (C := Try.checked) own started (by kernel_rfl) Try.func5
    (ChangeSpec.witness6 (enc := enc) (C := Try.checked) false ⟨#[], #[.agg #[.int .i64 0, .int .i64 0, .slice none 0 0], .int .i64 0, .int .u16 0, .int .u32 0], []⟩ 8 (by kernel_rfl) (by kernel_rfl) (by kernel_rfl) (by kernel_rfl)) ?_
  intro W base args ds gs before hval0 hW hcnd _
  have hval : ∀ (j : Nat) t v, Try.f5.params[j]? = some t → args[j]? = some v → Value.okWide Try.prog W .any base t v := hval0
  have hW' := hW
  obtain ⟨p, q, hA0, hV, rfl, hfz, hnd⟩ := hW
  have hA : DataW.TrodAll enc Try.prog W 0 (fun _ => true) true Try.f5.params.toList args.toList ds p := hA0
  rw [Try.params5] at hA hval
  obtain ⟨v0, vs0, d0, ds0, p0, q0, hargs, rfl, rfl, h0, r0⟩ := trodAll_cons hA
  obtain ⟨v1, vs1, d1, ds1, p1, q1, rfl, rfl, rfl, h1, r1⟩ := trodAll_cons r0
  obtain ⟨v2, vs2, d2, ds2, p2, q2, rfl, rfl, rfl, h2, r2⟩ := trodAll_cons r1
  obtain ⟨v3, vs3, d3, ds3, p3, q3, rfl, rfl, rfl, h3, r3⟩ := trodAll_cons r2
  obtain ⟨rfl, rfl, rfl⟩ := trodAll_nil r3
  obtain rfl : args = #[v0, v1, v2, v3] := by cases args; simp_all
  obtain ⟨rfl, rfl⟩ := trodVars_none hV
  have k0 := h0
  have lt0 : ∀ x ∈ p0, x.block < W.heap.size := by obtain ⟨m, hm⟩ := k0; exact DataW.trod_lt m _ _ _ hm
  obtain ⟨c0_0, c0_1, c0_2, y0_0, y0_1, y0_2, m0, rfl, _, _, hy0_0, hy0_1, hy0_2⟩ := Go.Joins.open_agg3 Try.underlying28 (by kernel_rfl) (by kernel_rfl) (hval 0 28 v0 rfl rfl) h0
  obtain ⟨a0_0, e0_0, _, w0_0⟩ := DataW.trod_int Try.underlying3 hy0_0
  simp only [List.cons.injEq, and_true] at e0_0
  subst e0_0
  obtain ⟨a0_1, e0_1, _, w0_1⟩ := DataW.trod_int Try.underlying3 hy0_1
  simp only [List.cons.injEq, and_true] at e0_1
  subst e0_1
  obtain ⟨a0_2, len0_2, cap0_2, e0_2⟩ := Go.Joins.slice_form Try.underlying26 hy0_2
  simp only [List.cons.injEq, and_true] at e0_2
  subst e0_2
  obtain ⟨z0_2, w0_2⟩ : ∃ zs, IsRow .u32 W a0_2 len0_2 cap0_2 zs := by
    rcases open_ints Try.underlying26 Try.underlying22 (by kernel_rfl) hy0_2 with ⟨hcs, _⟩ | ⟨x, l, c, zs, hcs, _, hl, hm, hz, _, hcell, hwz⟩
    · simp at hcs
      obtain ⟨rfl, rfl, rfl⟩ := hcs
      exact ⟨[], .inl ⟨rfl, rfl, rfl, rfl⟩⟩
    · simp at hcs
      obtain ⟨rfl, rfl, rfl⟩ := hcs
      exact ⟨zs, .inr ⟨_, rfl, hl, hm, by simpa using hz, hcell, hwz⟩⟩
  obtain ⟨a1, rfl, rfl, rfl, w1⟩ := open_int Try.underlying3 (hval 1 3 v1 rfl rfl) h1
  obtain ⟨a2, rfl, rfl, rfl, w2⟩ := open_int Try.underlying37 (hval 2 37 v2 rfl rfl) h2
  obtain ⟨a3, rfl, rfl, rfl, w3⟩ := open_int Try.underlying22 (hval 3 22 v3 rfl rfl) h3
  clear hA0 hval0
  refine (walk a0_0 a0_1 a0_2 len0_2 cap0_2 z0_2 a1 a2 a3 W w0_0 w0_1 w0_2 w1 w2 w3).mono fun e W' ⟨he, bel⟩ => ?_
  subst he
  exact ⟨_, rfl, _, _, _, [], _, [], hW', trodAll_mk1 (shut_bool Try.underlying4 _), (trodAll_cons_mk (Below.trod laidOut (by kernel_rfl) (of_decide_eq_true (by kernel_rfl)) k0 bel lt0) (trodAll_cons_mk (shut_int Try.underlying3 w1) (trodAll_cons_mk (shut_int Try.underlying37 w2) (trodAll_cons_mk (shut_int Try.underlying22 w3) trodAll_mk0)))), rfl, bel.frame _, fun h => by cases h⟩

theorem over : Rows.guessAheadRow.holds Try.pinned (OpenSpec.ofChange Rows.guessAheadSpec) :=
  OpenClaim.holds_of_wide 5 Try.f5 rfl rfl rfl rfl rfl rfl rfl ⟨rfl, rfl, rfl, rfl, rfl⟩ rfl rfl rfl rfl rfl (by kernel_rfl) Try.func5 (by kernel_rfl)
    (of_decide_eq_true (by kernel_rfl)) (by unfold Func.isWrapper; first | (rw [if_pos (by decide +kernel)]; kernel_rfl) | (rw [if_neg (by decide +kernel)]; exact ⟨rfl, rfl⟩))
    (fun os started H enc _ => lifted os started H enc)

/-- The statement. -/
theorem proved : Rows.GuessAheadSaid := over
#print axioms proved
end Go.Proofs.Ytncpoahnhgnokaa.guessAhead
