/-
  What is proved: Any image forth and back is what the document says, or may not be, forth and back it is itself, and the argument is as it was: the Go function GreenTurns of the statements of layer 15 returns true for all arguments.
  Conditions: none.
-/
import Derived.Test.YthnoamcgdidfmaaRows
import Derived.Test.YthnoamcgdidfmaaKAns
import Derived.Test.YthnoamcgdidfmaaKRef
import Derived.Test.YthnoamcgdidfmaaLRef
import Derived.WalkKit
import Derived.ProofKit
import Derived.OpenShut
import Derived.ShutString
import Derived.ChangeOld
import Derived.Below
import Derived.Deep.Grids
import Derived.Lib.SmallJoins
namespace Go.Proofs.Ythnoamcgdidfmaa.greenTurns
open Go.ChangeShapes Go.WideShapes Go.ChangeAt Go.RowKit
open Go.Proofs.Ythnoamcgdidfmaa.Core Go.Proofs.Ythnoamcgdidfmaa.PNum Go.Proofs.Ythnoamcgdidfmaa.PPrt Go.Proofs.Ythnoamcgdidfmaa.PGoo Go.Proofs.Ythnoamcgdidfmaa.XNum Go.Proofs.Ythnoamcgdidfmaa.Ims Go.Proofs.Ythnoamcgdidfmaa.LRef Go.Proofs.Ythnoamcgdidfmaa.KNum Go.Proofs.Ythnoamcgdidfmaa.KFor Go.Proofs.Ythnoamcgdidfmaa.KRef Go.Proofs.Ythnoamcgdidfmaa.KAns
open Go.ChangeMaps (open_string shut_string)
set_option linter.unusedVariables false

theorem own : ownKnob Try.prog.godebug = none := by kernel_rfl
theorem laidOut : laidOutB Try.prog = true := by kernel_rfl

/-- A slice of integers that came in: nil, or a row of cells, each fitting its kind. -/
def IsRow (k : IntKind) (w : World) (a : Option Addr) (len cap : Nat) (zs : List Int) : Prop :=
  (a = none ∧ len = 0 ∧ cap = 0 ∧ zs = []) ∨
  ∃ x, a = some x ∧ len ≤ cap ∧ cap ≤ maxLen ∧ zs.length = cap ∧ (∀ i, i < zs.length → w.cell? (x.add i) = some (.int k (zs.getD i 0))) ∧ ∀ n ∈ zs, (Lit.int k n).wf = true
/-- A slice of bools that came in. -/
def IsBools (w : World) (a : Option Addr) (len cap : Nat) (B : Nat → Bool) : Prop :=
  (a = none ∧ len = 0 ∧ cap = 0) ∨ ∃ x, a = some x ∧ len ≤ cap ∧ cap ≤ maxLen ∧ ∀ i, i < cap → w.cell? (x.add i) = some (.bool (B i))
open Go.Sort
theorem rgood (x y : Int) (a : Option Addr) (n c : Nat) (b : Bool) (w : World) (h : gdV x y n = b) :
    Calls Try.prog 9 #[.agg #[.int .i64 x, .int .i64 y, .slice a n c]] w fun e w' => e = .returned (.bool b) ∧ Below w.heap.size w w' := h ▸ rgood25 x y a n c w
/-- The five images, still there. -/
theorem five_at {w w' : World} {gm gx gy gz gw : Nat} {x y s x1 y1 s1 x2 y2 s2 x3 y3 s3 x4 y4 s4 : Value} (A : Box w gm 24 #[x, y, s]) (B : Box w gx 24 #[x1, y1, s1]) (C : Box w gy 24 #[x2, y2, s2]) (D : Box w gz 24 #[x3, y3, s3]) (E : Box w gw 24 #[x4, y4, s4]) (u : Below w.heap.size w w') :
    ((w'.cell? ⟨gm, 0, none⟩ = some x ∧ w'.cell? ⟨gm, 1, none⟩ = some y ∧ w'.cell? ⟨gm, 2, none⟩ = some s) ∧ (w'.cell? ⟨gx, 0, none⟩ = some x1 ∧ w'.cell? ⟨gx, 1, none⟩ = some y1 ∧ w'.cell? ⟨gx, 2, none⟩ = some s1) ∧ (w'.cell? ⟨gy, 0, none⟩ = some x2 ∧ w'.cell? ⟨gy, 1, none⟩ = some y2 ∧ w'.cell? ⟨gy, 2, none⟩ = some s2) ∧ (w'.cell? ⟨gz, 0, none⟩ = some x3 ∧ w'.cell? ⟨gz, 1, none⟩ = some y3 ∧ w'.cell? ⟨gz, 2, none⟩ = some s3) ∧ (w'.cell? ⟨gw, 0, none⟩ = some x4 ∧ w'.cell? ⟨gw, 1, none⟩ = some y4 ∧ w'.cell? ⟨gw, 2, none⟩ = some s4)) ∧ (gm < w'.heap.size ∧ gx < w'.heap.size ∧ gy < w'.heap.size ∧ gz < w'.heap.size ∧ gw < w'.heap.size) :=
  ⟨⟨keep_image A u, keep_image B u, keep_image C u, keep_image D u, keep_image E u⟩, Nat.lt_of_lt_of_le A.lt u.size, Nat.lt_of_lt_of_le B.lt u.size, Nat.lt_of_lt_of_le C.lt u.size, Nat.lt_of_lt_of_le D.lt u.size, Nat.lt_of_lt_of_le E.lt u.size⟩
set_option maxRecDepth 20000 in
set_option maxHeartbeats 1000000 in
theorem walk (a0_0 : Int) (a0_1 : Int) (a0_2 : Option Addr) (len0_2 cap0_2 : Nat) (z0_2 : List Int) (w : World) (w0_0 : (Lit.int .i64 a0_0).wf = true) (w0_1 : (Lit.int .i64 a0_1).wf = true) (w0_2 : IsRow .u32 w a0_2 len0_2 cap0_2 z0_2) :
    Calls Try.prog 3 #[.agg #[.int .i64 a0_0, .int .i64 a0_1, .slice a0_2 len0_2 cap0_2]] w fun e w' => e = .returned (.bool true) ∧ Below w.heap.size w w' := by
  have BL := hide (bel_a1 w (.cells #[.int .i64 a0_0, .int .i64 a0_1, .slice a0_2 len0_2 cap0_2] 24))
  have BX := hide (Box.made w 24 #[.int .i64 a0_0, .int .i64 a0_1, .slice a0_2 len0_2 cap0_2])
  clear w0_0 w0_1
  by_cases hbig : 3000 < len0_2
  · clear w0_2
    go_enter Try.func3, Try.ntmps3
    go_wp2_with fail
    refine (ans6 _).mono ?_
    rintro e w9 ⟨rfl, b9⟩
    have B9 := hide (bel_into (unhide BL) b9)
    clear b9
    go_wp2
    go_ret
    exact ⟨rfl, unhide B9⟩
  · have hsm : len0_2 ≤ 3000 := by omega
    clear hbig
    rcases Bool.eq_false_or_eq_true (gdV a0_0 a0_1 len0_2) with hg | hg
    · have HG := hide hg
      obtain ⟨b, off, z, W, H, rfl, rfl, rfl, I, hW1, hH1, zb⟩ := img_of w0_2 hg
      obtain ⟨n, hne⟩ : ∃ n, n = len0_2 := ⟨_, rfl⟩
      subst hne
      have hW := I.hW
      have hH := I.hH
      have HN := hide I.hn
      have hn0 : 0 < n := by rw [I.hn]; exact Nat.mul_pos hW1 hH1
      have I0 := hide I
      have ZB := hide zb
      clear I zb hg w0_2
      go_enter Try.func3, Try.ntmps3
      go_wp2_with fail
      refine (forth7 cap0_2 ((unhide I0).below (unhide BL)) hW1 hH1 (by omega)).mono ?_
      rintro e w1 ⟨g1, rfl, G⟩
      have A1 := hide (bel_a1 w1 (.cells #[.int .i64 W, .int .i64 H, .slice (some ⟨g1, 0, none⟩) n n] 24))
      have B2 := hide (bel_into (bel_into (unhide BL) G.bel) (unhide A1))
      have X2 := hide (((unhide BX).below G.bel (unhide BX).lt).alloc (.cells #[.int .i64 W, .int .i64 H, .slice (some ⟨g1, 0, none⟩) n n] 24))
      have Y2 := hide (Box.made w1 24 #[.int .i64 W, .int .i64 H, .slice (some ⟨g1, 0, none⟩) n n])
      have R2 := hide (G.row.below (unhide A1))
      clear G BL BX A1
      go_upto_region 4 with fail
      generalize w1.heap.size = gx at *
      generalize w1.alloc (.cells #[.int .i64 W, .int .i64 H, .slice (some ⟨g1, 0, none⟩) n n] 24) = w2 at *
      obtain ⟨⟨c0, c1, c2⟩, _⟩ := box_cells (unhide X2)
      have hm2 := (unhide X2).lt
      go_wp2_with fail
      refine (back8 cap0_2 ((unhide I0).below (unhide B2)) hW1 hH1 (by omega)).mono ?_
      rintro e w3 ⟨g2, rfl, G⟩
      have A3 := hide (bel_a1 w3 (.cells #[.int .i64 W, .int .i64 H, .slice (some ⟨g2, 0, none⟩) n n] 24))
      have B4 := hide (bel_into (bel_into (unhide B2) G.bel) (unhide A3))
      have X4 := hide (((unhide X2).below G.bel (unhide X2).lt).alloc (.cells #[.int .i64 W, .int .i64 H, .slice (some ⟨g2, 0, none⟩) n n] 24))
      have Y4 := hide (((unhide Y2).below G.bel (unhide Y2).lt).alloc (.cells #[.int .i64 W, .int .i64 H, .slice (some ⟨g2, 0, none⟩) n n] 24))
      have V4 := hide (Box.made w3 24 #[.int .i64 W, .int .i64 H, .slice (some ⟨g2, 0, none⟩) n n])
      have R4 := hide (((unhide R2).below G.bel).below (unhide A3))
      have S4 := hide (G.row.below (unhide A3))
      clear G c0 c1 c2 hm2 X2 Y2 R2 B2 A3
      go_upto_region 5 with fail
      generalize w3.heap.size = gy at *
      generalize w3.alloc (.cells #[.int .i64 W, .int .i64 H, .slice (some ⟨g2, 0, none⟩) n n] 24) = w4 at *
      obtain ⟨⟨c0, c1, c2⟩, _⟩ := box_cells (unhide X4)
      have hm4 := (unhide X4).lt
      go_wp2_with fail
      refine (rgood W H (some ⟨b, off, none⟩) n cap0_2 true _ (unhide HG)).mono ?_
      rintro e w5 ⟨rfl, b5⟩
      have B5 := hide (bel_into (unhide B4) b5)
      have X5 := hide ((unhide X4).below b5 (unhide X4).lt)
      have Y5 := hide ((unhide Y4).below b5 (unhide Y4).lt)
      have V5 := hide ((unhide V4).below b5 (unhide V4).lt)
      have R5 := hide ((unhide R4).below b5)
      have S5 := hide ((unhide S4).below b5)
      clear b5 c0 c1 c2 hm4 X4 Y4 V4 B4 R4 S4
      obtain ⟨⟨d0, d1, d2⟩, _⟩ := box_cells (unhide Y5)
      have hy5 := (unhide Y5).lt
      go_wp2_with fail
      refine (back8 n (img_own hW hH (unhide HN) (unhide R5)) hW1 hH1 (by omega)).mono ?_
      rintro e w6 ⟨g3, rfl, G⟩
      have A6 := hide (bel_a1 w6 (.cells #[.int .i64 W, .int .i64 H, .slice (some ⟨g3, 0, none⟩) n n] 24))
      have U6 := hide (bel_into G.bel (unhide A6))
      have B7 := hide (bel_into (unhide B5) (unhide U6))
      have X7 := hide ((unhide X5).below (unhide U6) (unhide X5).lt)
      have Y7 := hide ((unhide Y5).below (unhide U6) (unhide Y5).lt)
      have V7 := hide ((unhide V5).below (unhide U6) (unhide V5).lt)
      have Z7 := hide (Box.made w6 24 #[.int .i64 W, .int .i64 H, .slice (some ⟨g3, 0, none⟩) n n])
      have R7 := hide ((unhide R5).below (unhide U6))
      have S7 := hide ((unhide S5).below (unhide U6))
      have Q7 : Hid (Pow (w6.alloc (.cells #[.int .i64 W, .int .i64 H, .slice (some ⟨g3, 0, none⟩) n n] 24)) g3 n z) := hide ((G.row.congr (fun i hi => mg_lg (unhide ZB i hi))).below (unhide A6))
      clear G A6 U6 d0 d1 d2 hy5 X5 Y5 V5 B5 R5 S5
      go_upto_region 8 with fail
      generalize w6.heap.size = gz at *
      generalize w6.alloc (.cells #[.int .i64 W, .int .i64 H, .slice (some ⟨g3, 0, none⟩) n n] 24) = w7 at *
      obtain ⟨⟨e0, e1, e2⟩, _⟩ := box_cells (unhide V7)
      have hv7 := (unhide V7).lt
      go_wp2_with fail
      refine (forth7 n (img_own hW hH (unhide HN) (unhide S7)) hW1 hH1 (by omega)).mono ?_
      rintro e w8 ⟨g4, rfl, G⟩
      have A8 := hide (bel_a1 w8 (.cells #[.int .i64 W, .int .i64 H, .slice (some ⟨g4, 0, none⟩) n n] 24))
      have U8 := hide (bel_into G.bel (unhide A8))
      have B10 := hide (bel_into (unhide B7) (unhide U8))
      have X10 := hide ((unhide X7).below (unhide U8) (unhide X7).lt)
      have Y10 := hide ((unhide Y7).below (unhide U8) (unhide Y7).lt)
      have V10 := hide ((unhide V7).below (unhide U8) (unhide V7).lt)
      have Z10 := hide ((unhide Z7).below (unhide U8) (unhide Z7).lt)
      have T10 := hide (Box.made w8 24 #[.int .i64 W, .int .i64 H, .slice (some ⟨g4, 0, none⟩) n n])
      have R10 := hide ((unhide R7).below (unhide U8))
      have S10 := hide ((unhide S7).below (unhide U8))
      have Q10 := hide ((unhide Q7).below (unhide U8))
      have K10 : Hid (Pow (w8.alloc (.cells #[.int .i64 W, .int .i64 H, .slice (some ⟨g4, 0, none⟩) n n] 24)) g4 n z) := hide ((G.row.congr (fun i hi => lg_mg (unhide ZB i hi))).below (unhide A8))
      clear G A8 U8 e0 e1 e2 hv7 X7 Y7 V7 Z7 B7 R7 S7 Q7
      go_upto_region 9 with fail
      generalize w8.heap.size = gw at *
      generalize w8.alloc (.cells #[.int .i64 W, .int .i64 H, .slice (some ⟨g4, 0, none⟩) n n] 24) = w10 at *
      have L1 : Hid (∀ wX, Below w10.heap.size w10 wX → Calls Try.prog 11 #[.agg #[.int .i64 W, .int .i64 H, .slice (some ⟨b, off, none⟩) n cap0_2], .bool false] wX fun e w' => ∃ g cap, e = .returned (.agg #[.int .i64 W, .int .i64 H, .slice (some ⟨g, 0, none⟩) n cap]) ∧ Gives wX n g (fun i => lgV (z i)) w') :=
        hide fun wX u => rgreen_forth cap0_2 ((unhide I0).px.below (bel_into (unhide B10) u)) hn0 (by omega)
      have L2 : Hid (∀ wX, Below w10.heap.size w10 wX → Calls Try.prog 11 #[.agg #[.int .i64 W, .int .i64 H, .slice (some ⟨b, off, none⟩) n cap0_2], .bool true] wX fun e w' => ∃ g cap, e = .returned (.agg #[.int .i64 W, .int .i64 H, .slice (some ⟨g, 0, none⟩) n cap]) ∧ Gives wX n g (fun i => mgV (z i)) w') :=
        hide fun wX u => rgreen_back cap0_2 ((unhide I0).px.below (bel_into (unhide B10) u)) hn0 (by omega)
      obtain ⟨⟨⟨c00, c10, c20⟩, ⟨d00, d10, d20⟩, ⟨e00, e10, e20⟩, ⟨f00, f10, f20⟩, ⟨h00, h10, h20⟩⟩, ⟨qc0, qd0, qe0, qf0, qh0⟩⟩ := five_at (unhide X10) (unhide Y10) (unhide V10) (unhide Z10) (unhide T10) (Below.refl _ _)
      go_region_held3 (fun w' => (w'.cell? ⟨w.heap.size, 0, none⟩ = some (.int .i64 W) ∧ w'.cell? ⟨w.heap.size, 1, none⟩ = some (.int .i64 H) ∧ w'.cell? ⟨w.heap.size, 2, none⟩ = some (.slice (some ⟨b, off, none⟩) n cap0_2)) ∧ (w'.cell? ⟨gx, 0, none⟩ = some (.int .i64 W) ∧ w'.cell? ⟨gx, 1, none⟩ = some (.int .i64 H) ∧ w'.cell? ⟨gx, 2, none⟩ = some (.slice (some ⟨g1, 0, none⟩) n n)) ∧ (w'.cell? ⟨gy, 0, none⟩ = some (.int .i64 W) ∧ w'.cell? ⟨gy, 1, none⟩ = some (.int .i64 H) ∧ w'.cell? ⟨gy, 2, none⟩ = some (.slice (some ⟨g2, 0, none⟩) n n)) ∧ (w'.cell? ⟨gz, 0, none⟩ = some (.int .i64 W) ∧ w'.cell? ⟨gz, 1, none⟩ = some (.int .i64 H) ∧ w'.cell? ⟨gz, 2, none⟩ = some (.slice (some ⟨g3, 0, none⟩) n n)) ∧ (w'.cell? ⟨gw, 0, none⟩ = some (.int .i64 W) ∧ w'.cell? ⟨gw, 1, none⟩ = some (.int .i64 H) ∧ w'.cell? ⟨gw, 2, none⟩ = some (.slice (some ⟨g4, 0, none⟩) n n))) (first | exact ⟨⟨c0a, c1a, c2a⟩, ⟨d0a, d1a, d2a⟩, ⟨e0a, e1a, e2a⟩, ⟨f0a, f1a, f2a⟩, ⟨h0a, h1a, h2a⟩⟩ | exact ⟨⟨c0b, c1b, c2b⟩, ⟨d0b, d1b, d2b⟩, ⟨e0b, e1b, e2b⟩, ⟨f0b, f1b, f2b⟩, ⟨h0b, h1b, h2b⟩⟩ | exact ⟨⟨c0p, c1p, c2p⟩, ⟨d0p, d1p, d2p⟩, ⟨e0p, e1p, e2p⟩, ⟨f0p, f1p, f2p⟩, ⟨h0p, h1p, h2p⟩⟩ | exact ⟨⟨c0q, c1q, c2q⟩, ⟨d0q, d1q, d2q⟩, ⟨e0q, e1q, e2q⟩, ⟨f0q, f1q, f2q⟩, ⟨h0q, h1q, h2q⟩⟩ | exact ⟨⟨c0r, c1r, c2r⟩, ⟨d0r, d1r, d2r⟩, ⟨e0r, e1r, e2r⟩, ⟨f0r, f1r, f2r⟩, ⟨h0r, h1r, h2r⟩⟩ | exact ⟨⟨c0s, c1s, c2s⟩, ⟨d0s, d1s, d2s⟩, ⟨e0s, e1s, e2s⟩, ⟨f0s, f1s, f2s⟩, ⟨h0s, h1s, h2s⟩⟩ | exact ⟨⟨c0t, c1t, c2t⟩, ⟨d0t, d1t, d2t⟩, ⟨e0t, e1t, e2t⟩, ⟨f0t, f1t, f2t⟩, ⟨h0t, h1t, h2t⟩⟩ | go_keep) ((first | (go_at_call 6; with_reducible refine Calls.mono (ans6 _) ?_; rintro e wa ⟨rfl, ba⟩; have Ua : Hid (Below w10.heap.size w10 wa) := hide (bel_into (by first | exact bel_dr (Below.refl _ _) | exact Below.refl _ _) ba); obtain ⟨⟨⟨c0a, c1a, c2a⟩, ⟨d0a, d1a, d2a⟩, ⟨e0a, e1a, e2a⟩, ⟨f0a, f1a, f2a⟩, ⟨h0a, h1a, h2a⟩⟩, ⟨qca, qda, qea, qfa, qha⟩⟩ := five_at (unhide X10) (unhide Y10) (unhide V10) (unhide Z10) (unhide T10) (unhide Ua); clear ba) | (go_at_call 11; with_reducible refine Calls.mono (unhide L1 _ (unhide Ua)) ?_; rintro e wb ⟨gb, cb, rfl, Gb⟩; have Ub : Hid (Below w10.heap.size w10 wb) := hide (bel_into (unhide Ua) Gb.bel); have Pb := hide Gb.row; obtain ⟨⟨⟨c0b, c1b, c2b⟩, ⟨d0b, d1b, d2b⟩, ⟨e0b, e1b, e2b⟩, ⟨f0b, f1b, f2b⟩, ⟨h0b, h1b, h2b⟩⟩, ⟨qcb, qdb, qeb, qfb, qhb⟩⟩ := five_at (unhide X10) (unhide Y10) (unhide V10) (unhide Z10) (unhide T10) (unhide Ub); clear Gb) | (go_at_call 10; with_reducible refine Calls.mono (rsame12 W H n cb ((unhide R10).below (unhide Ub)).pixs (unhide Pb).pixs (by omega)) ?_; rintro e wp ⟨rfl, bp⟩; have Up : Hid (Below w10.heap.size w10 wp) := hide (bel_into (unhide Ub) bp); obtain ⟨⟨⟨c0p, c1p, c2p⟩, ⟨d0p, d1p, d2p⟩, ⟨e0p, e1p, e2p⟩, ⟨f0p, f1p, f2p⟩, ⟨h0p, h1p, h2p⟩⟩, ⟨qcp, qdp, qep, qfp, qhp⟩⟩ := five_at (unhide X10) (unhide Y10) (unhide V10) (unhide Z10) (unhide T10) (unhide Up); clear bp) | (go_at_call 11; with_reducible refine Calls.mono (unhide L2 _ (unhide Up)) ?_; rintro e wq ⟨gq, cq, rfl, Gq⟩; have Uq : Hid (Below w10.heap.size w10 wq) := hide (bel_into (unhide Up) Gq.bel); have Pq := hide Gq.row; obtain ⟨⟨⟨c0q, c1q, c2q⟩, ⟨d0q, d1q, d2q⟩, ⟨e0q, e1q, e2q⟩, ⟨f0q, f1q, f2q⟩, ⟨h0q, h1q, h2q⟩⟩, ⟨qcq, qdq, qeq, qfq, qhq⟩⟩ := five_at (unhide X10) (unhide Y10) (unhide V10) (unhide Z10) (unhide T10) (unhide Uq); clear Gq) | (go_at_call 10; with_reducible refine Calls.mono (rsame12 W H n cq ((unhide S10).below (unhide Uq)).pixs (unhide Pq).pixs (by omega)) ?_; rintro e wr ⟨rfl, br⟩; have Ur : Hid (Below w10.heap.size w10 wr) := hide (bel_into (unhide Uq) br); obtain ⟨⟨⟨c0r, c1r, c2r⟩, ⟨d0r, d1r, d2r⟩, ⟨e0r, e1r, e2r⟩, ⟨f0r, f1r, f2r⟩, ⟨h0r, h1r, h2r⟩⟩, ⟨qcr, qdr, qer, qfr, qhr⟩⟩ := five_at (unhide X10) (unhide Y10) (unhide V10) (unhide Z10) (unhide T10) (unhide Ur); clear br) | (go_at_call 10; with_reducible refine Calls.mono (rsame12 W H n cap0_2 ((unhide Q10).below (unhide Ur)).pixs ((unhide I0).px.below (bel_into (unhide B10) (unhide Ur))) (by omega)) ?_; rintro e ws ⟨rfl, bs⟩; have Us : Hid (Below w10.heap.size w10 ws) := hide (bel_into (unhide Ur) bs); obtain ⟨⟨⟨c0s, c1s, c2s⟩, ⟨d0s, d1s, d2s⟩, ⟨e0s, e1s, e2s⟩, ⟨f0s, f1s, f2s⟩, ⟨h0s, h1s, h2s⟩⟩, ⟨qcs, qds, qes, qfs, qhs⟩⟩ := five_at (unhide X10) (unhide Y10) (unhide V10) (unhide Z10) (unhide T10) (unhide Us); clear bs) | (go_at_call 10; with_reducible refine Calls.mono (rsame12 W H n cap0_2 ((unhide K10).below (unhide Us)).pixs ((unhide I0).px.below (bel_into (unhide B10) (unhide Us))) (by omega)) ?_; rintro e wt ⟨rfl, bt⟩; have Ut : Hid (Below w10.heap.size w10 wt) := hide (bel_into (unhide Us) bt); obtain ⟨⟨⟨c0t, c1t, c2t⟩, ⟨d0t, d1t, d2t⟩, ⟨e0t, e1t, e2t⟩, ⟨f0t, f1t, f2t⟩, ⟨h0t, h1t, h2t⟩⟩, ⟨qct, qdt, qet, qft, qht⟩⟩ := five_at (unhide X10) (unhide Y10) (unhide V10) (unhide Z10) (unhide T10) (unhide Ut); clear bt)))
      all_goals go_wp2
      all_goals go_ret
      all_goals exact ⟨rfl, bel_into (unhide B10) (unhide Ut)⟩
    · have HG := hide hg
      clear hg w0_2
      go_enter Try.func3, Try.ntmps3
      go_wp2_with fail
      refine (forth7_no a0_0 a0_1 a0_2 len0_2 cap0_2 _ (unhide HG)).mono ?_
      rintro e w1 ⟨rfl, b1⟩
      have A1 := hide (bel_a1 w1 (.cells #[.int .i64 0, .int .i64 0, .slice none 0 0] 24))
      have B2 := hide (bel_into (bel_into (unhide BL) b1) (unhide A1))
      have X2 := hide (((unhide BX).below b1 (unhide BX).lt).alloc (.cells #[.int .i64 0, .int .i64 0, .slice none 0 0] 24))
      have Y2 := hide (Box.made w1 24 #[.int .i64 0, .int .i64 0, .slice none 0 0])
      clear b1 BL BX A1
      go_upto_region 4 with fail
      generalize w1.heap.size = gx at *
      generalize w1.alloc (.cells #[.int .i64 0, .int .i64 0, .slice none 0 0] 24) = w2 at *
      obtain ⟨⟨c0, c1, c2⟩, _⟩ := box_cells (unhide X2)
      have hm2 := (unhide X2).lt
      go_wp2_with fail
      refine (back8_no a0_0 a0_1 a0_2 len0_2 cap0_2 _ (unhide HG)).mono ?_
      rintro e w3 ⟨rfl, b3⟩
      have A3 := hide (bel_a1 w3 (.cells #[.int .i64 0, .int .i64 0, .slice none 0 0] 24))
      have B4 := hide (bel_into (bel_into (unhide B2) b3) (unhide A3))
      have X4 := hide (((unhide X2).below b3 (unhide X2).lt).alloc (.cells #[.int .i64 0, .int .i64 0, .slice none 0 0] 24))
      have Y4 := hide (((unhide Y2).below b3 (unhide Y2).lt).alloc (.cells #[.int .i64 0, .int .i64 0, .slice none 0 0] 24))
      have V4 := hide (Box.made w3 24 #[.int .i64 0, .int .i64 0, .slice none 0 0])
      clear b3 B2 X2 Y2 A3 c0 c1 c2 hm2
      go_upto_region 5 with fail
      generalize w3.heap.size = gy at *
      generalize w3.alloc (.cells #[.int .i64 0, .int .i64 0, .slice none 0 0] 24) = w4 at *
      obtain ⟨⟨c0, c1, c2⟩, _⟩ := box_cells (unhide X4)
      have hm4 := (unhide X4).lt
      go_wp2_with fail
      refine (rgood a0_0 a0_1 a0_2 len0_2 cap0_2 false _ (unhide HG)).mono ?_
      rintro e w5 ⟨rfl, b5⟩
      have B5 := hide (bel_into (unhide B4) b5)
      have Y5 := hide ((unhide Y4).below b5 (unhide Y4).lt)
      have V5 := hide ((unhide V4).below b5 (unhide V4).lt)
      clear b5 c0 c1 c2 hm4 X4 Y4 V4 B4
      go_wp2_with fail
      refine (ans6 _).mono ?_
      rintro e w6 ⟨rfl, b6⟩
      have B6 := hide (bel_into (unhide B5) b6)
      have Y6 := hide ((unhide Y5).below b6 (unhide Y5).lt)
      have V6 := hide ((unhide V5).below b6 (unhide V5).lt)
      obtain ⟨⟨d0, d1, d2⟩, _⟩ := box_cells (unhide Y6)
      obtain ⟨⟨e0, e1, e2⟩, _⟩ := box_cells (unhide V6)
      have hy6 := (unhide Y6).lt
      have hv6 := (unhide V6).lt
      clear b6 Y5 V5 B5
      go_wp2
      go_ret
      exact ⟨rfl, unhide B6⟩

set_option maxRecDepth 100000 in
theorem lifted (os : Os) (started : os.Started) (H : Type) (enc : TypeId × Value → H) :
    ReturnsInHanded {} Try.checked os 3 .any (Rows.greenTurnsSpec.pre6 enc Try.prog Try.f3 Rows.greenTurnsRow.domain false) (Rows.greenTurnsSpec.post enc Try.prog Try.f3 false true false false) := by
  refine returnsInHanded_of_change (C := Try.checked) own started (by kernel_rfl) Try.func3
    (ChangeSpec.witness6 (enc := enc) (C := Try.checked) false ⟨#[], #[.agg #[.int .i64 0, .int .i64 0, .slice none 0 0]], []⟩ 8 (by kernel_rfl) (by kernel_rfl) (by kernel_rfl) (by kernel_rfl)) ?_
  intro W base args ds gs before hval0 hW hcnd _
  have hval : ∀ (j : Nat) t v, Try.f3.params[j]? = some t → args[j]? = some v → Value.okWide Try.prog W .any base t v := hval0
  have hW' := hW
  obtain ⟨p, q, hA0, hV, rfl, hfz, hnd⟩ := hW
  have hA : DataW.TrodAll enc Try.prog W 0 (fun _ => true) true Try.f3.params.toList args.toList ds p := hA0
  rw [Try.params3] at hA hval
  obtain ⟨v0, vs0, d0, ds0, p0, q0, hargs, rfl, rfl, h0, r0⟩ := trodAll_cons hA
  obtain ⟨rfl, rfl, rfl⟩ := trodAll_nil r0
  obtain rfl : args = #[v0] := by cases args; simp_all
  obtain ⟨rfl, rfl⟩ := trodVars_none hV
  have k0 := h0
  have lt0 : ∀ x ∈ p0, x.block < W.heap.size := by obtain ⟨m, hm⟩ := k0; exact DataW.trod_lt m _ _ _ hm
  obtain ⟨c0_0, c0_1, c0_2, y0_0, y0_1, y0_2, m0, rfl, _, _, hy0_0, hy0_1, hy0_2⟩ := Go.Joins.open_agg3 Try.underlying24 (by kernel_rfl) (by kernel_rfl) (hval 0 24 v0 rfl rfl) h0
  obtain ⟨a0_0, e0_0, _, w0_0⟩ := DataW.trod_int Try.underlying3 hy0_0
  simp only [List.cons.injEq, and_true] at e0_0
  subst e0_0
  obtain ⟨a0_1, e0_1, _, w0_1⟩ := DataW.trod_int Try.underlying3 hy0_1
  simp only [List.cons.injEq, and_true] at e0_1
  subst e0_1
  obtain ⟨a0_2, len0_2, cap0_2, e0_2⟩ := Go.Joins.slice_form Try.underlying22 hy0_2
  simp only [List.cons.injEq, and_true] at e0_2
  subst e0_2
  obtain ⟨z0_2, w0_2⟩ : ∃ zs, IsRow .u32 W a0_2 len0_2 cap0_2 zs := by
    rcases open_ints Try.underlying22 Try.underlying33 (by kernel_rfl) hy0_2 with ⟨hcs, _⟩ | ⟨x, l, c, zs, hcs, _, hl, hm, hz, _, hcell, hwz⟩
    · simp at hcs
      obtain ⟨rfl, rfl, rfl⟩ := hcs
      exact ⟨[], .inl ⟨rfl, rfl, rfl, rfl⟩⟩
    · simp at hcs
      obtain ⟨rfl, rfl, rfl⟩ := hcs
      exact ⟨zs, .inr ⟨_, rfl, hl, hm, by simpa using hz, hcell, hwz⟩⟩
  clear hA0 hval0
  refine (walk a0_0 a0_1 a0_2 len0_2 cap0_2 z0_2 W w0_0 w0_1 w0_2).mono fun e W' ⟨he, bel⟩ => ?_
  subst he
  exact ⟨_, rfl, _, _, _, [], _, [], hW', trodAll_mk1 (shut_bool Try.underlying4 _), (trodAll_cons_mk (Below.trod laidOut (by kernel_rfl) (of_decide_eq_true (by kernel_rfl)) k0 bel lt0) trodAll_mk0), rfl, bel.frame _, fun h => by cases h⟩

theorem over : Rows.greenTurnsRow.holds Try.pinned (OpenSpec.ofChange Rows.greenTurnsSpec) :=
  OpenClaim.holds_of_wide 3 Try.f3 rfl rfl rfl rfl rfl rfl rfl ⟨rfl, rfl, rfl, rfl, rfl⟩ rfl rfl rfl rfl rfl (by kernel_rfl) Try.func3 (by kernel_rfl)
    (of_decide_eq_true (by kernel_rfl)) (by unfold Func.isWrapper; first | (rw [if_pos (by decide +kernel)]; kernel_rfl) | (rw [if_neg (by decide +kernel)]; exact ⟨rfl, rfl⟩))
    (fun os started H enc _ => lifted os started H enc)

/-- The statement. -/
theorem proved : Rows.GreenTurnsSaid := over
#print axioms proved
end Go.Proofs.Ythnoamcgdidfmaa.greenTurns
