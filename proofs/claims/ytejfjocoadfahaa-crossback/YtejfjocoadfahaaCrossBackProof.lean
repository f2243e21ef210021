/-
  What is proved: Forth and back an image is itself, and back and forth, alpha and green stay, and the arguments are as they were: the Go function CrossBack of the statements of layer 14 returns true for all arguments.
  Conditions: none.
-/
import Derived.Test.YtejfjocoadfahaaRows
import Derived.Test.YtejfjocoadfahaaXInp
import Derived.Test.YtejfjocoadfahaaLRef
import Derived.WalkKit
import Derived.ProofKit
import Derived.OpenShut
import Derived.ShutString
import Derived.ChangeOld
import Derived.Below
import Derived.Deep.Grids
import Derived.Lib.SmallJoins
namespace Go.Proofs.Ytejfjocoadfahaa.crossBack
open Go.ChangeShapes Go.WideShapes Go.ChangeAt Go.RowKit
open Go.Proofs.Ytejfjocoadfahaa.Core Go.Proofs.Ytejfjocoadfahaa.PNum Go.Proofs.Ytejfjocoadfahaa.PPrt Go.Proofs.Ytejfjocoadfahaa.PGoo Go.Proofs.Ytejfjocoadfahaa.XNum Go.Proofs.Ytejfjocoadfahaa.Ims Go.Proofs.Ytejfjocoadfahaa.LRef Go.Proofs.Ytejfjocoadfahaa.XDel Go.Proofs.Ytejfjocoadfahaa.XLes Go.Proofs.Ytejfjocoadfahaa.LBlk Go.Proofs.Ytejfjocoadfahaa.XFit Go.Proofs.Ytejfjocoadfahaa.XEch Go.Proofs.Ytejfjocoadfahaa.XFor Go.Proofs.Ytejfjocoadfahaa.XInp
open Go.ChangeMaps (open_string shut_string)
set_option linter.unusedVariables false

theorem own : ownKnob Try.prog.godebug = none := by kernel_rfl
theorem laidOut : laidOutB Try.prog = true := by kernel_rfl

/-- A slice of integers that came in: nil, or a row of cells, each fitting its kind. -/
def IsRow (k : IntKind) (w : World) (a : Option Addr) (len cap : Nat) (zs : List Int) : Prop :=
  (a = none ∧ len = 0 ∧ cap = 0 ∧ zs = []) ∨
  ∃ x, a = some x ∧ len ≤ cap ∧ cap ≤ maxLen ∧ zs.length = cap ∧ (∀ i, i < zs.length → w.cell? (x.add i) = some (.int k (zs.getD i 0))) ∧ ∀ n ∈ zs, (Lit.int k n).wf = true
/-- A slice of bools that came in. -/
def IsBools (w : World) (a : Option Addr) (len cap : Nat) (B : Nat → Bool) : Prop :=
  (a = none ∧ len = 0 ∧ cap = 0) ∨ ∃ x, a = some x ∧ len ≤ cap ∧ cap ≤ maxLen ∧ ∀ i, i < cap → w.cell? (x.add i) = some (.bool (B i))
open Go.Sort
theorem rgood (x y : Int) (a : Option Addr) (n c : Nat) (b : Bool) (w : World) (h : gdV x y n = b) :
    Calls Try.prog 6 #[.agg #[.int .i64 x, .int .i64 y, .slice a n c]] w fun e w' => e = .returned (.bool b) ∧ Below w.heap.size w w' := h ▸ rgood25 x y a n c w
set_option maxRecDepth 20000 in
set_option maxHeartbeats 1000000 in
theorem walk (a0_0 : Int) (a0_1 : Int) (a0_2 : Option Addr) (len0_2 cap0_2 : Nat) (z0_2 : List Int) (a1 : Int) (a2 : Option Addr) (len2 cap2 : Nat) (w : World) (w0_0 : (Lit.int .i64 a0_0).wf = true) (w0_1 : (Lit.int .i64 a0_1).wf = true) (w0_2 : IsRow .u32 w a0_2 len0_2 cap0_2 z0_2) (w1 : (Lit.int .i64 a1).wf = true) (w2 : IsEls w a2 len2) :
    Calls Try.prog 3 #[.agg #[.int .i64 a0_0, .int .i64 a0_1, .slice a0_2 len0_2 cap0_2], .int .i64 a1, .slice a2 len2 cap2] w fun e w' => e = .returned (.bool true) ∧ Below w.heap.size w w' := by
  have BL := hide (bel_a1 w (.cells #[.int .i64 a0_0, .int .i64 a0_1, .slice a0_2 len0_2 cap0_2] 24))
  have BX := hide (Box.made w 24 #[.int .i64 a0_0, .int .i64 a0_1, .slice a0_2 len0_2 cap0_2])
  clear w0_0 w0_1 w1
  by_cases hbig : 2000 < len0_2
  · clear w0_2 w2
    go_enter Try.func3, Try.ntmps3
    go_wp2_with fail
    refine (ans8 _).mono ?_
    rintro e w9 ⟨rfl, b9⟩
    have B9 := hide (bel_into (unhide BL) b9)
    clear b9
    go_wp2
    go_ret
    exact ⟨rfl, unhide B9⟩
  · have hsm : len0_2 ≤ 2000 := by omega
    clear hbig
    rcases Bool.eq_false_or_eq_true (gdV a0_0 a0_1 len0_2) with hg | hg
    · have GD := hide (fun w => rgood a0_0 a0_1 a0_2 len0_2 cap0_2 true w hg)
      rcases Bool.eq_false_or_eq_true (decide (a1 < (2 : Int))) with hd | hd
      · clear w0_2 w2 hg
        go_enter Try.func3, Try.ntmps3
        go_wp2_with fail
        refine (unhide GD _).mono ?_
        rintro e w1 ⟨rfl, b1⟩
        have B1 := hide (bel_into (unhide BL) b1)
        have X1 := hide ((unhide BX).below b1 (unhide BX).lt)
        obtain ⟨⟨c0, c1, c2⟩, _⟩ := box_cells (unhide X1)
        have hm1 := (unhide X1).lt
        clear b1
        go_wp2_with fail
        refine (ans8 _).mono ?_
        rintro e w9 ⟨rfl, b9⟩
        have B9 := hide (bel_into (unhide B1) b9)
        clear b9
        go_wp2
        go_ret
        exact ⟨rfl, unhide B9⟩
      · rcases Bool.eq_false_or_eq_true (decide ((9 : Int) < a1)) with hd9 | hd9
        · clear w0_2 w2 hg
          go_enter Try.func3, Try.ntmps3
          go_wp2_with fail
          refine (unhide GD _).mono ?_
          rintro e w1 ⟨rfl, b1⟩
          have B1 := hide (bel_into (unhide BL) b1)
          have X1 := hide ((unhide BX).below b1 (unhide BX).lt)
          obtain ⟨⟨c0, c1, c2⟩, _⟩ := box_cells (unhide X1)
          have hm1 := (unhide X1).lt
          clear b1
          go_wp2_with fail
          refine (ans8 _).mono ?_
          rintro e w9 ⟨rfl, b9⟩
          have B9 := hide (bel_into (unhide B1) b9)
          clear b9
          go_wp2
          go_ret
          exact ⟨rfl, unhide B9⟩
        · obtain ⟨b, off, z, W, H, rfl, rfl, rfl, I, hW1, hH1, zb⟩ := img_of w0_2 hg
          have k0 := of_decide_eq_false hd
          have k9 := of_decide_eq_false hd9
          obtain ⟨k, rfl⟩ := Int.eq_ofNat_of_zero_le (a := a1) (by omega)
          have hk2 : 2 ≤ k := by omega
          have hk9 : k ≤ 9 := by omega
          clear k0 k9
          have hW := I.hW
          have hH := I.hH
          have MY := hide (fun w => rmany26 W H k (some ⟨b, off, none⟩) len0_2 cap0_2 w hW hH hk9)
          by_cases hf : len2 = bl W k * bl H k
          · have HF : ((len2 : Int) != ((bl W k * bl H k : Nat) : Int)) = false := by rw [hf]; simp
            have hm0 : 0 < len2 := by rw [hf]; exact Nat.mul_pos (bl_pos k hW1) (bl_pos k hH1)
            obtain ⟨bb, bo, E, rfl, EL⟩ := els_some w2 hm0
            have HM := hide hf
            have HN := hide I.hn
            have I0 := hide I
            have E0 := hide EL
            have ZB := hide zb
            obtain ⟨n, hne⟩ : ∃ n, n = len0_2 := ⟨_, rfl⟩
            subst hne
            have hn0 : 0 < n := by rw [I.hn]; exact Nat.mul_pos hW1 hH1
            clear I EL zb hf hg w0_2 w2 hm0
            generalize hr : bl W k * bl H k = r at *
            have HR := hide hr
            clear hr
            go_enter Try.func3, Try.ntmps3
            go_wp2_with fail
            refine (unhide GD _).mono ?_
            rintro e w1 ⟨rfl, b1⟩
            have B1 := hide (bel_into (unhide BL) b1)
            have X1 := hide ((unhide BX).below b1 (unhide BX).lt)
            obtain ⟨⟨c0, c1, c2⟩, _⟩ := box_cells (unhide X1)
            have hm1 := (unhide X1).lt
            clear b1
            go_wp2_with fail
            refine (unhide MY _).mono ?_
            rintro e w2 ⟨rfl, b2⟩
            have B2 := hide (bel_into (unhide B1) b2)
            have X2 := hide ((unhide X1).below b2 (unhide X1).lt)
            clear b2 c0 c1 c2 hm1 B1 X1
            obtain ⟨⟨c0, c1, c2⟩, _⟩ := box_cells (unhide X2)
            have hm2 := (unhide X2).lt
            go_wp2_with fail
            refine (forth9 (k := k) cap0_2 cap2 ((unhide I0).below (unhide B2)) (unhide ZB) ((unhide E0).below (unhide B2)) hW1 hH1 hk2 hk9 ((unhide HM).trans (unhide HR).symm) (by omega)).mono ?_
            rintro e w3 ⟨g1, rfl, G⟩
            have X3 := hide ((unhide X2).below G.bel (unhide X2).lt)
            have R3 := hide G.row
            have B3 := hide (bel_into (unhide B2) G.bel)
            have A3 := hide (bel_a1 w3 (.cells #[.int .i64 W, .int .i64 H, .slice (some ⟨g1, 0, none⟩) n n] 24))
            have Y3 := hide (Box.made w3 24 #[.int .i64 W, .int .i64 H, .slice (some ⟨g1, 0, none⟩) n n])
            clear G c0 c1 c2 hm2 X2 B2
            obtain ⟨⟨c0, c1, c2⟩, _⟩ := box_cells (unhide X3)
            have hm3 := (unhide X3).lt
            go_wp2_with fail
            refine (back10 (k := k) n cap2 (img_own hW hH (unhide HN) ((unhide R3).below (unhide A3))) (fun i _ => ou_ls_lt E W k z i) ((unhide E0).below (bel_into (unhide B3) (unhide A3))) hW1 hH1 hk2 hk9 ((unhide HM).trans (unhide HR).symm) (by omega)).mono ?_
            rintro e w4 ⟨g2, rfl, G⟩
            have U4 := hide (bel_into (unhide A3) G.bel)
            have X4 := hide ((unhide X3).below (unhide U4) (unhide X3).lt)
            have Y4 := hide ((unhide Y3).below G.bel (unhide Y3).lt)
            have RX4 := hide ((unhide R3).below (unhide U4))
            have R4 := hide (G.row.congr (ou_back E (unhide ZB)))
            have B4 := hide (bel_into (unhide B3) (unhide U4))
            have A4 := hide (bel_a1 w4 (.cells #[.int .i64 W, .int .i64 H, .slice (some ⟨g2, 0, none⟩) n n] 24))
            have Z4 := hide (Box.made w4 24 #[.int .i64 W, .int .i64 H, .slice (some ⟨g2, 0, none⟩) n n])
            clear G c0 c1 c2 hm3 R3 A3 X3 Y3 B3 U4
            generalize w3.heap.size = gx at *
            obtain ⟨⟨c0, c1, c2⟩, _⟩ := box_cells (unhide X4)
            have hm4 := (unhide X4).lt
            go_wp2_with fail
            refine (back10 (k := k) cap0_2 cap2 ((unhide I0).below (bel_into (unhide B4) (unhide A4))) (unhide ZB) ((unhide E0).below (bel_into (unhide B4) (unhide A4))) hW1 hH1 hk2 hk9 ((unhide HM).trans (unhide HR).symm) (by omega)).mono ?_
            rintro e w5 ⟨g3, rfl, G⟩
            have U5 := hide (bel_into (unhide A4) G.bel)
            have X5 := hide ((unhide X4).below (unhide U5) (unhide X4).lt)
            have Y5 := hide ((unhide Y4).below (unhide U5) (unhide Y4).lt)
            have Z5 := hide ((unhide Z4).below G.bel (unhide Z4).lt)
            have RX5 := hide ((unhide RX4).below (unhide U5))
            have RY5 := hide ((unhide R4).below (unhide U5))
            have R5 := hide G.row
            have B5 := hide (bel_into (unhide B4) (unhide U5))
            have A5 := hide (bel_a1 w5 (.cells #[.int .i64 W, .int .i64 H, .slice (some ⟨g3, 0, none⟩) n n] 24))
            clear G c0 c1 c2 hm4 A4 X4 Y4 Z4 RX4 R4 B4 U5
            generalize w4.heap.size = gy at *
            obtain ⟨⟨c0, c1, c2⟩, _⟩ := box_cells (unhide X5)
            have hm5 := (unhide X5).lt
            go_wp2_with fail
            refine (forth9 (k := k) n cap2 (img_own hW hH (unhide HN) ((unhide R5).below (unhide A5))) (fun i _ => ou_mo_lt E W k z i) ((unhide E0).below (bel_into (unhide B5) (unhide A5))) hW1 hH1 hk2 hk9 ((unhide HM).trans (unhide HR).symm) (by omega)).mono ?_
            rintro e w6 ⟨g4, rfl, G⟩
            have U6 := hide (bel_into (unhide A5) G.bel)
            have A6 := hide (bel_a1 w6 (.cells #[.int .i64 W, .int .i64 H, .slice (some ⟨g4, 0, none⟩) n n] 24))
            have T6 := hide (bel_into (unhide U6) (unhide A6))
            have X6 := hide ((unhide X5).below (unhide T6) (unhide X5).lt)
            have Y6 := hide ((unhide Y5).below (unhide T6) (unhide Y5).lt)
            have Z6 := hide ((unhide Z5).below (unhide T6) (unhide Z5).lt)
            have V6 := hide (Box.made w6 24 #[.int .i64 W, .int .i64 H, .slice (some ⟨g4, 0, none⟩) n n])
            have RX6 := hide ((unhide RX5).below (unhide T6))
            have RY6 := hide ((unhide RY5).below (unhide T6))
            have R6 := hide ((G.row.congr (ou_forth E (unhide ZB))).below (unhide A6))
            have B6 := hide (bel_into (unhide B5) (unhide T6))
            clear G c0 c1 c2 hm5 R5 A5 X5 Y5 Z5 RX5 RY5 B5 U6 A6 T6
            go_upto_region 7 with fail
            generalize w6.heap.size = gv at *
            generalize w6.alloc (.cells #[.int .i64 W, .int .i64 H, .slice (some ⟨g4, 0, none⟩) n n] 24) = wz at *
            go_wp2_with fail
            go_loopw [15] (fun i wr => ∃ j : Nat, j ≤ n ∧ i = .int .i64 j ∧ Below wz.heap.size wz wr) (fun i _ => n - (intOf i).toNat)
            case atStart => exact ⟨0, Nat.zero_le _, rfl, Below.refl _ _⟩
            case round =>
              obtain ⟨j, hj, rfl, BR⟩ := hrel
              have BR0 := hide BR
              obtain ⟨⟨c0, c1, c2⟩, _⟩ := box_cells ((unhide X6).below BR (unhide X6).lt)
              obtain ⟨⟨d0, d1, d2⟩, _⟩ := box_cells ((unhide Y6).below BR (unhide Y6).lt)
              have hmr := ((unhide X6).below BR (unhide X6).lt).lt
              have hyr := ((unhide Y6).below BR (unhide Y6).lt).lt
              by_cases hlt : j < n
              · have hlt' : (j : Int) < (n : Int) := by omega
                have px := (((unhide RX6).below BR) j hlt).1
                have pm := ((unhide I0).below (bel_into (unhide B6) BR)).px j hlt
                have hpx := lt_of_cell px
                have hpm := lt_of_cell pm
                have ST := ou_stays (W := W) (k := k) E (unhide ZB) j hlt
                clear BR
                generalize ou lsV E W k z j = u at *
                generalize z j = v at *
                go_wp2_with fail
                go_quiet (fail)
                go_wp2
                go_roundw
                case rel => exact ⟨j + 1, by omega, by go_num, below_drew (unhide BR0) _⟩
                case measure => simp [intOf]; omega
              · obtain rfl : j = n := by omega
                have hnl : ¬ (j : Int) < (j : Int) := by omega
                clear BR
                go_wp2_with fail
                refine (ans8 _).mono ?_
                rintro e w7 ⟨rfl, b7⟩
                have U7 := hide (bel_into (unhide BR0) b7)
                have X7 := hide ((unhide X6).below (unhide U7) (unhide X6).lt)
                have Z7 := hide ((unhide Z6).below (unhide U7) (unhide Z6).lt)
                have V7 := hide ((unhide V6).below (unhide U7) (unhide V6).lt)
                have RY7 := hide ((unhide RY6).below (unhide U7))
                have R7 := hide ((unhide R6).below (unhide U7))
                have B7 := hide (bel_into (unhide B6) (unhide U7))
                clear b7 c0 c1 c2 d0 d1 d2 hmr hyr
                obtain ⟨⟨c0, c1, c2⟩, _⟩ := box_cells (unhide X7)
                obtain ⟨⟨d0, d1, d2⟩, _⟩ := box_cells (unhide Z7)
                obtain ⟨⟨e0, e1, e2⟩, _⟩ := box_cells (unhide V7)
                have hm7 := (unhide X7).lt
                have hz7 := (unhide Z7).lt
                have hv7 := (unhide V7).lt
                go_wp2_with fail
                refine (rsame12 W H j cap0_2 (unhide RY7).pixs ((unhide I0).px.below (unhide B7)) (by omega)).mono ?_
                rintro e w8 ⟨rfl, b8⟩
                have X8 := hide ((unhide X7).below b8 (unhide X7).lt)
                have V8 := hide ((unhide V7).below b8 (unhide V7).lt)
                have R8 := hide ((unhide R7).below b8)
                have B8 := hide (bel_into (unhide B7) b8)
                clear b8 c0 c1 c2 d0 d1 d2 e0 e1 e2 hm7 hz7 hv7
                obtain ⟨⟨c0, c1, c2⟩, _⟩ := box_cells (unhide X8)
                obtain ⟨⟨e0, e1, e2⟩, _⟩ := box_cells (unhide V8)
                have hm8 := (unhide X8).lt
                have hv8 := (unhide V8).lt
                go_wp2_with fail
                refine (rsame12 W H j cap0_2 (unhide R8).pixs ((unhide I0).px.below (unhide B8)) (by omega)).mono ?_
                rintro e w10 ⟨rfl, b10⟩
                have B10 := hide (bel_into (unhide B8) b10)
                clear b10 c0 c1 c2 e0 e1 e2
                go_wp2
                go_ret
                exact ⟨rfl, unhide B10⟩
          · have HF : ((len2 : Int) != ((bl W k * bl H k : Nat) : Int)) = true := bne_iff_ne.2 fun h => hf (Int.ofNat.inj h)
            clear w2 hg w0_2 I zb hf
            generalize bl W k * bl H k = r at *
            go_enter Try.func3, Try.ntmps3
            go_wp2_with fail
            refine (unhide GD _).mono ?_
            rintro e w1 ⟨rfl, b1⟩
            have B1 := hide (bel_into (unhide BL) b1)
            have X1 := hide ((unhide BX).below b1 (unhide BX).lt)
            obtain ⟨⟨c0, c1, c2⟩, _⟩ := box_cells (unhide X1)
            have hm1 := (unhide X1).lt
            clear b1
            go_wp2_with fail
            refine (unhide MY _).mono ?_
            rintro e w2 ⟨rfl, b2⟩
            have B2 := hide (bel_into (unhide B1) b2)
            clear b2 c0 c1 c2
            go_wp2_with fail
            refine (ans8 _).mono ?_
            rintro e w9 ⟨rfl, b9⟩
            have B9 := hide (bel_into (unhide B2) b9)
            clear b9
            go_wp2
            go_ret
            exact ⟨rfl, unhide B9⟩
    · have GD := hide (fun w => rgood a0_0 a0_1 a0_2 len0_2 cap0_2 false w hg)
      clear w0_2 w2 hg
      go_enter Try.func3, Try.ntmps3
      go_wp2_with fail
      refine (unhide GD _).mono ?_
      rintro e w1 ⟨rfl, b1⟩
      have B1 := hide (bel_into (unhide BL) b1)
      have X1 := hide ((unhide BX).below b1 (unhide BX).lt)
      obtain ⟨⟨c0, c1, c2⟩, _⟩ := box_cells (unhide X1)
      have hm1 := (unhide X1).lt
      clear b1
      go_wp2_with fail
      refine (ans8 _).mono ?_
      rintro e w9 ⟨rfl, b9⟩
      have B9 := hide (bel_into (unhide B1) b9)
      clear b9
      go_wp2
      go_ret
      exact ⟨rfl, unhide B9⟩

set_option maxRecDepth 100000 in
theorem lifted (os : Os) (started : os.Started) (H : Type) (enc : TypeId × Value → H) :
    ReturnsInHanded {} Try.checked os 3 .any (Rows.crossBackSpec.pre6 enc Try.prog Try.f3 Rows.crossBackRow.domain false) (Rows.crossBackSpec.post enc Try.prog Try.f3 false true false false) := by
  refine returnsInHanded_of_change (C := Try.checked) own started (by kernel_rfl) Try.func3
    (ChangeSpec.witness6 (enc := enc) (C := Try.checked) false ⟨#[], #[.agg #[.int .i64 0, .int .i64 0, .slice none 0 0], .int .i64 0, .slice none 0 0], []⟩ 8 (by kernel_rfl) (by kernel_rfl) (by kernel_rfl) (by kernel_rfl)) ?_
  intro W base args ds gs before hval0 hW hcnd _
  have hval : ∀ (j : Nat) t v, Try.f3.params[j]? = some t → args[j]? = some v → Value.okWide Try.prog W .any base t v := hval0
  have hW' := hW
  obtain ⟨p, q, hA0, hV, rfl, hfz, hnd⟩ := hW
  have hA : DataW.TrodAll enc Try.prog W 0 (fun _ => true) true Try.f3.params.toList args.toList ds p := hA0
  rw [Try.params3] at hA hval
  obtain ⟨v0, vs0, d0, ds0, p0, q0, hargs, rfl, rfl, h0, r0⟩ := trodAll_cons hA
  obtain ⟨v1, vs1, d1, ds1, p1, q1, rfl, rfl, rfl, h1, r1⟩ := trodAll_cons r0
  obtain ⟨v2, vs2, d2, ds2, p2, q2, rfl, rfl, rfl, h2, r2⟩ := trodAll_cons r1
  obtain ⟨rfl, rfl, rfl⟩ := trodAll_nil r2
  obtain rfl : args = #[v0, v1, v2] := by cases args; simp_all
  obtain ⟨rfl, rfl⟩ := trodVars_none hV
  have k0 := h0
  have lt0 : ∀ x ∈ p0, x.block < W.heap.size := by obtain ⟨m, hm⟩ := k0; exact DataW.trod_lt m _ _ _ hm
  obtain ⟨c0_0, c0_1, c0_2, y0_0, y0_1, y0_2, m0, rfl, _, _, hy0_0, hy0_1, hy0_2⟩ := Go.Joins.open_agg3 Try.underlying24 (by kernel_rfl) (by kernel_rfl) (hval 0 24 v0 rfl rfl) h0
  obtain ⟨a0_0, e0_0, _, w0_0⟩ := DataW.trod_int Try.underlying3 hy0_0
  simp only [List.cons.injEq, and_true] at e0_0
  subst e0_0
  obtain ⟨a0_1, e0_1, _, w0_1⟩ := DataW.trod_int Try.underlying3 hy0_1
  simp only [List.cons.injEq, and_true] at e0_1
  subst e0_1
  obtain ⟨a0_2, len0_2, cap0_2, e0_2⟩ := Go.Joins.slice_form Try.underlying22 hy0_2
  simp only [List.cons.injEq, and_true] at e0_2
  subst e0_2
  obtain ⟨z0_2, w0_2⟩ : ∃ zs, IsRow .u32 W a0_2 len0_2 cap0_2 zs := by
    rcases open_ints Try.underlying22 Try.underlying32 (by kernel_rfl) hy0_2 with ⟨hcs, _⟩ | ⟨x, l, c, zs, hcs, _, hl, hm, hz, _, hcell, hwz⟩
    · simp at hcs
      obtain ⟨rfl, rfl, rfl⟩ := hcs
      exact ⟨[], .inl ⟨rfl, rfl, rfl, rfl⟩⟩
    · simp at hcs
      obtain ⟨rfl, rfl, rfl⟩ := hcs
      exact ⟨zs, .inr ⟨_, rfl, hl, hm, by simpa using hz, hcell, hwz⟩⟩
  obtain ⟨a1, rfl, rfl, rfl, w1⟩ := open_int Try.underlying3 (hval 1 3 v1 rfl rfl) h1
  obtain ⟨a2, len2, cap2, rfl⟩ := okWide_slice Try.underlying25 (hval 2 25 v2 rfl rfl)
  have k2 := h2
  have lt2 : ∀ x ∈ p2, x.block < W.heap.size := by obtain ⟨m, hm⟩ := k2; exact DataW.trod_lt m _ _ _ hm
  have w2 : IsEls W a2 len2 := by obtain ⟨fuel, hf⟩ := h2; exact els_in (by simpa [Value.cells] using hf)
  clear hA0 hval0
  refine (walk a0_0 a0_1 a0_2 len0_2 cap0_2 z0_2 a1 a2 len2 cap2 W w0_0 w0_1 w0_2 w1 w2).mono fun e W' ⟨he, bel⟩ => ?_
  subst he
  exact ⟨_, rfl, _, _, _, [], _, [], hW', trodAll_mk1 (shut_bool Try.underlying4 _), (trodAll_cons_mk (Below.trod laidOut (by kernel_rfl) (of_decide_eq_true (by kernel_rfl)) k0 bel lt0) (trodAll_cons_mk (shut_int Try.underlying3 w1) (trodAll_cons_mk (Below.trod laidOut (by kernel_rfl) (of_decide_eq_true (by kernel_rfl)) k2 bel lt2) trodAll_mk0))), rfl, bel.frame _, fun h => by cases h⟩

theorem over : Rows.crossBackRow.holds Try.pinned (OpenSpec.ofChange Rows.crossBackSpec) :=
  OpenClaim.holds_of_wide 3 Try.f3 rfl rfl rfl rfl rfl rfl rfl ⟨rfl, rfl, rfl, rfl, rfl⟩ rfl rfl rfl rfl rfl (by kernel_rfl) Try.func3 (by kernel_rfl)
    (of_decide_eq_true (by kernel_rfl)) (by unfold Func.isWrapper; first | (rw [if_pos (by decide +kernel)]; kernel_rfl) | (rw [if_neg (by decide +kernel)]; exact ⟨rfl, rfl⟩))
    (fun os started H enc _ => lifted os started H enc)

/-- The statement. -/
theorem proved : Rows.CrossBackSaid := over
#print axioms proved
end Go.Proofs.Ytejfjocoadfahaa.crossBack
