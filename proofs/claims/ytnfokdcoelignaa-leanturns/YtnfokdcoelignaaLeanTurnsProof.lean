/-
  What is proved: Forth, Back and Sound answer what the document asks of any image, bits and modes: the Go function LeanTurns of the statements of layer 13 returns true for all arguments.
  Conditions: none.
-/
import Derived.Test.YtnfokdcoelignaaRows
import Derived.Test.YtnfokdcoelignaaLAns
import Derived.Test.YtnfokdcoelignaaLRef
import Derived.Test.YtnfokdcoelignaaLGth
import Derived.Test.YtnfokdcoelignaaLInp
import Derived.Test.YtnfokdcoelignaaLRle
import Derived.WalkKit
import Derived.ProofKit
import Derived.OpenShut
import Derived.ShutString
import Derived.ChangeOld
import Derived.Below
import Derived.Deep.Grids
import Derived.Lib.SmallJoins
namespace Go.Proofs.Ytnfokdcoelignaa.leanTurns
open Go.ChangeShapes Go.WideShapes Go.ChangeAt Go.RowKit
open Go.Proofs.Ytnfokdcoelignaa.Core Go.Proofs.Ytnfokdcoelignaa.PNum Go.Proofs.Ytnfokdcoelignaa.PFun Go.Proofs.Ytnfokdcoelignaa.PRfn Go.Proofs.Ytnfokdcoelignaa.PGoo Go.Proofs.Ytnfokdcoelignaa.GGue Go.Proofs.Ytnfokdcoelignaa.GImg Go.Proofs.Ytnfokdcoelignaa.GAro Go.Proofs.Ytnfokdcoelignaa.GAtt Go.Proofs.Ytnfokdcoelignaa.GCpy Go.Proofs.Ytnfokdcoelignaa.LBlk Go.Proofs.Ytnfokdcoelignaa.LMod Go.Proofs.Ytnfokdcoelignaa.LSnd Go.Proofs.Ytnfokdcoelignaa.LEch Go.Proofs.Ytnfokdcoelignaa.LNum Go.Proofs.Ytnfokdcoelignaa.LFor Go.Proofs.Ytnfokdcoelignaa.LAns Go.Proofs.Ytnfokdcoelignaa.LRef Go.Proofs.Ytnfokdcoelignaa.LGth Go.Proofs.Ytnfokdcoelignaa.LInp Go.Proofs.Ytnfokdcoelignaa.LRle
open Go.ChangeMaps (open_string shut_string)
set_option linter.unusedVariables false

theorem own : ownKnob Try.prog.godebug = none := by kernel_rfl
theorem laidOut : laidOutB Try.prog = true := by kernel_rfl

/-- A slice of integers that came in: nil, or a row of cells, each fitting its kind. -/
def IsRow (k : IntKind) (w : World) (a : Option Addr) (len cap : Nat) (zs : List Int) : Prop :=
  (a = none ∧ len = 0 ∧ cap = 0 ∧ zs = []) ∨
  ∃ x, a = some x ∧ len ≤ cap ∧ cap ≤ maxLen ∧ zs.length = cap ∧ (∀ i, i < zs.length → w.cell? (x.add i) = some (.int k (zs.getD i 0))) ∧ ∀ n ∈ zs, (Lit.int k n).wf = true
/-- A slice of bools that came in. -/
def IsBools (w : World) (a : Option Addr) (len cap : Nat) (B : Nat → Bool) : Prop :=
  (a = none ∧ len = 0 ∧ cap = 0) ∨ ∃ x, a = some x ∧ len ≤ cap ∧ cap ≤ maxLen ∧ ∀ i, i < cap → w.cell? (x.add i) = some (.bool (B i))
open Go.Sort
theorem gd_of_so {W H : Int} {n : Nat} {bits : Int} {m : Nat} {md : Nat → Int} (h : soV W H n bits m md = true) : gdV W H n = true := by
  unfold soV at h
  simp only [Bool.and_eq_true] at h
  exact h.1
theorem three_at {w w' : World} {gm gx gy : Nat} {x y s x1 y1 s1 x2 y2 s2 : Value} (A : Box w gm 24 #[x, y, s]) (B : Box w gx 24 #[x1, y1, s1]) (C : Box w gy 24 #[x2, y2, s2]) (u : Below w.heap.size w w') :
    (w'.cell? ⟨gm, 0, none⟩ = some x ∧ w'.cell? ⟨gm, 1, none⟩ = some y ∧ w'.cell? ⟨gm, 2, none⟩ = some s) ∧ (w'.cell? ⟨gx, 0, none⟩ = some x1 ∧ w'.cell? ⟨gx, 1, none⟩ = some y1 ∧ w'.cell? ⟨gx, 2, none⟩ = some s1) ∧ (w'.cell? ⟨gy, 0, none⟩ = some x2 ∧ w'.cell? ⟨gy, 1, none⟩ = some y2 ∧ w'.cell? ⟨gy, 2, none⟩ = some s2) ∧ gm < w'.heap.size ∧ gx < w'.heap.size ∧ gy < w'.heap.size :=
  ⟨keep_image A u, keep_image B u, keep_image C u, Nat.lt_of_lt_of_le A.lt u.size, Nat.lt_of_lt_of_le B.lt u.size, Nat.lt_of_lt_of_le C.lt u.size⟩
set_option maxRecDepth 20000 in
set_option maxHeartbeats 1000000 in
theorem walk (a0_0 : Int) (a0_1 : Int) (a0_2 : Option Addr) (len0_2 cap0_2 : Nat) (z0_2 : List Int) (a1 : Int) (a2 : Option Addr) (len2 cap2 : Nat) (z2 : List Int) (w : World) (w0_0 : (Lit.int .i64 a0_0).wf = true) (w0_1 : (Lit.int .i64 a0_1).wf = true) (w0_2 : IsRow .u32 w a0_2 len0_2 cap0_2 z0_2) (w1 : (Lit.int .i64 a1).wf = true) (w2 : IsRow .i64 w a2 len2 cap2 z2) :
    Calls Try.prog 3 #[.agg #[.int .i64 a0_0, .int .i64 a0_1, .slice a0_2 len0_2 cap0_2], .int .i64 a1, .slice a2 len2 cap2] w fun e w' => e = .returned (.bool true) ∧ Below w.heap.size w w' := by
  have BL := hide (bel_a1 w (.cells #[.int .i64 a0_0, .int .i64 a0_1, .slice a0_2 len0_2 cap0_2] 24))
  have BX := hide (Box.made w 24 #[.int .i64 a0_0, .int .i64 a0_1, .slice a0_2 len0_2 cap0_2])
  have MDS := hide (mds_of w2)
  clear w0_0 w0_1 w1 w2
  by_cases hbig : 2000 < len0_2
  · clear w0_2 MDS
    go_enter Try.func3, Try.ntmps3
    go_wp2_with fail
    refine (ans7 _).mono ?_
    rintro e w9 ⟨rfl, b9⟩
    have B9 := hide (bel_into (unhide BL) b9)
    clear b9
    go_wp2
    go_ret
    exact ⟨rfl, unhide B9⟩
  · have hsm : len0_2 ≤ 2000 := by omega
    clear hbig
    by_cases hbig2 : 2000 < len2
    · clear w0_2 MDS
      go_enter Try.func3, Try.ntmps3
      go_wp2_with fail
      refine (ans7 _).mono ?_
      rintro e w9 ⟨rfl, b9⟩
      have B9 := hide (bel_into (unhide BL) b9)
      clear b9
      go_wp2
      go_ret
      exact ⟨rfl, unhide B9⟩
    · have hsm2 : len2 ≤ 2000 := by omega
      clear hbig2
      rcases Bool.eq_false_or_eq_true (soV a0_0 a0_1 len0_2 a1 len2 (fun i => z2.getD i 0)) with hs | hs
      · have HS := hide hs
        obtain ⟨W, H, k, eW, eH, ek, hW1, hW, hH1, hH, hn', hk2, hk, hm, hmd⟩ := so_of hs
        obtain ⟨b, off, z, W2, H2, rfl, eW2, eH2, I, _, _, zb⟩ := img_of w0_2 (gd_of_so hs)
        obtain rfl : W = W2 := by omega
        obtain rfl : H = H2 := by omega
        subst eW eH ek
        clear eW2 eH2 w0_2 hmd
        have hm0 : 0 < len2 := by rw [hm]; exact Nat.mul_pos (bl_pos k hW1) (bl_pos k hH1)
        obtain ⟨mb, mo, rfl⟩ := mds_some (unhide MDS) hm0
        obtain ⟨n, hne⟩ : ∃ n, n = len0_2 := ⟨_, rfl⟩
        subst hne
        have hn0 : 0 < n := by rw [hn']; exact Nat.mul_pos hW1 hH1
        have HN := hide hn'
        have I0 := hide I
        have M0 := hide (unhide MDS)
        have ZB := hide zb
        clear I hn' zb hm hs
        go_enter Try.func3, Try.ntmps3
        go_wp2_with fail
        refine (forth8 (k := k) cap0_2 cap2 ((unhide I0).below (unhide BL)) ((unhide M0).below (unhide BL)) (by omega) (by omega) (unhide HS)).mono ?_
        rintro e w3 ⟨g1, rfl, G⟩
        have A3 := hide (bel_a1 w3 (.cells #[.int .i64 W, .int .i64 H, .slice (some ⟨g1, 0, none⟩) n n] 24))
        have B3 := hide (bel_into (bel_into (unhide BL) G.bel) (unhide A3))
        have X3 := hide ((unhide BX).below G.bel (unhide BX).lt)
        have R3 := hide (G.row.below (unhide A3))
        obtain ⟨⟨c0, c1, c2⟩, _⟩ := box_cells (unhide X3)
        have hm3 := (unhide X3).lt
        clear G
        go_wp2_with fail
        refine (back9 (k := k) cap0_2 cap2 ((unhide I0).below (unhide B3)) ((unhide M0).below (unhide B3)) (by omega) (by omega) (unhide HS)).mono ?_
        rintro e w4 ⟨g2, rfl, G⟩
        have XX := hide (bel_into (unhide A3) G.bel)
        have A4 := hide (bel_a1 w4 (.cells #[.int .i64 W, .int .i64 H, .slice (some ⟨g2, 0, none⟩) n n] 24))
        have B4 := hide (bel_into (bel_into (unhide B3) G.bel) (unhide A4))
        have X4 := hide ((unhide X3).below (unhide XX) (unhide X3).lt)
        have Y4 := hide ((Box.made w3 24 #[.int .i64 W, .int .i64 H, .slice (some ⟨g1, 0, none⟩) n n]).below G.bel (Box.made w3 24 #[.int .i64 W, .int .i64 H, .slice (some ⟨g1, 0, none⟩) n n]).lt)
        have V4 := hide (Box.made w4 24 #[.int .i64 W, .int .i64 H, .slice (some ⟨g2, 0, none⟩) n n])
        have R4 := hide (((unhide R3).below G.bel).below (unhide A4))
        have S4 := hide (G.row.below (unhide A4))
        clear G c0 c1 c2 hm3 X3 B3 R3
        generalize w3.heap.size = gx at *
        obtain ⟨⟨c0, c1, c2⟩, _⟩ := box_cells (unhide X4)
        have hm4 := (unhide X4).lt
        go_wp2_with fail
        refine (rmodes10 W H k (some ⟨b, off, none⟩) (some ⟨mb, mo, none⟩) n cap0_2 len2 cap2 _ _ (by omega) ((unhide M0).below (unhide B4))).mono ?_
        rintro e w5 ⟨rfl, b5⟩
        have U5 := hide (bel_into (unhide A4) b5)
        have X5 := hide ((unhide X4).below (unhide U5) (unhide X4).lt)
        have Y5 := hide ((unhide Y4).below (unhide U5) (unhide Y4).lt)
        have V5 := hide ((unhide V4).below b5 (unhide V4).lt)
        have R5 := hide ((unhide R4).below b5)
        have S5 := hide ((unhide S4).below b5)
        have B5 := hide (bel_into (unhide B4) b5)
        clear b5 c0 c1 c2 hm4 X4 B4 Y4 V4 A4 U5 R4 S4 A3 XX
        generalize w4.heap.size = gy at *
        rw [unhide HS]
        go_wp2_with fail
        refine (ans7 _).mono ?_
        rintro e w6 ⟨rfl, b6⟩
        have X6 := hide ((unhide X5).below b6 (unhide X5).lt)
        have Y6 := hide ((unhide Y5).below b6 (unhide Y5).lt)
        have V6 := hide ((unhide V5).below b6 (unhide V5).lt)
        have R6 := hide ((unhide R5).below b6)
        have S6 := hide ((unhide S5).below b6)
        have B6 := hide (bel_into (unhide B5) b6)
        clear b6 X5 B5 Y5 V5 R5 S5
        obtain ⟨⟨c0, c1, c2⟩, _⟩ := box_cells (unhide X6)
        have hm6 := (unhide X6).lt
        go_wp2_with fail
        refine (sound11 W H k (some ⟨b, off, none⟩) (some ⟨mb, mo, none⟩) n cap0_2 len2 cap2 _ _ (by omega) ((unhide M0).below (unhide B6))).mono ?_
        rintro e w7 ⟨rfl, b7⟩
        have X7 := hide ((unhide X6).below b7 (unhide X6).lt)
        have Y7 := hide ((unhide Y6).below b7 (unhide Y6).lt)
        have V7 := hide ((unhide V6).below b7 (unhide V6).lt)
        have R7 := hide ((unhide R6).below b7)
        have S7 := hide ((unhide S6).below b7)
        have B7 := hide (bel_into (unhide B6) b7)
        clear b7 X6 B6 Y6 V6 c0 c1 c2 hm6 R6 S6
        rw [unhide HS]
        obtain ⟨⟨c0, c1, c2⟩, ⟨d0, d1, d2⟩, ⟨e0, e1, e2⟩, hm7, hy7, hv7⟩ := three_at (unhide X7) (unhide Y7) (unhide V7) (Below.refl _ _)
        have L1 : Hid (∀ wX, Below w7.heap.size w7 wX → Calls Try.prog 13 #[.agg #[.int .i64 W, .int .i64 H, .slice (some ⟨b, off, none⟩) n cap0_2], .int .i64 k, .slice (some ⟨mb, mo, none⟩) len2 cap2, .bool false] wX fun e w' => ∃ g, e = .returned (.agg #[.int .i64 W, .int .i64 H, .slice (some ⟨g, 0, none⟩) n n]) ∧ Gives wX n g (foV W k (fun i => z2.getD i 0) z) w') :=
          hide fun wX u => rlean_forth cap0_2 cap2 ((unhide I0).below (bel_into (unhide B7) u)) ((unhide M0).below (bel_into (unhide B7) u)) (by omega) (by omega) (unhide HS)
        have L2 : Hid (∀ wX, Below w7.heap.size w7 wX → Calls Try.prog 13 #[.agg #[.int .i64 W, .int .i64 H, .slice (some ⟨b, off, none⟩) n cap0_2], .int .i64 k, .slice (some ⟨mb, mo, none⟩) len2 cap2, .bool true] wX fun e w' => ∃ g, e = .returned (.agg #[.int .i64 W, .int .i64 H, .slice (some ⟨g, 0, none⟩) n n]) ∧ Gives wX n g (baV W k (fun i => z2.getD i 0) z) w') :=
          hide fun wX u => rlean_back cap0_2 cap2 ((unhide I0).below (bel_into (unhide B7) u)) ((unhide M0).below (bel_into (unhide B7) u)) (by omega) (by omega) (unhide HS)
        go_wp2_with fail
        go_region_held3 (fun w' => (w'.cell? ⟨w.heap.size, 0, none⟩ = some (.int .i64 W) ∧ w'.cell? ⟨w.heap.size, 1, none⟩ = some (.int .i64 H) ∧ w'.cell? ⟨w.heap.size, 2, none⟩ = some (.slice (some ⟨b, off, none⟩) n cap0_2)) ∧ (w'.cell? ⟨gx, 0, none⟩ = some (.int .i64 W) ∧ w'.cell? ⟨gx, 1, none⟩ = some (.int .i64 H) ∧ w'.cell? ⟨gx, 2, none⟩ = some (.slice (some ⟨g1, 0, none⟩) n n)) ∧ (w'.cell? ⟨gy, 0, none⟩ = some (.int .i64 W) ∧ w'.cell? ⟨gy, 1, none⟩ = some (.int .i64 H) ∧ w'.cell? ⟨gy, 2, none⟩ = some (.slice (some ⟨g2, 0, none⟩) n n))) (first | go_keep | exact ⟨⟨c0a, c1a, c2a⟩, ⟨d0a, d1a, d2a⟩, ⟨e0a, e1a, e2a⟩⟩ | exact ⟨⟨c0b, c1b, c2b⟩, ⟨d0b, d1b, d2b⟩, ⟨e0b, e1b, e2b⟩⟩ | exact ⟨⟨c0c, c1c, c2c⟩, ⟨d0c, d1c, d2c⟩, ⟨e0c, e1c, e2c⟩⟩ | exact ⟨⟨c0d, c1d, c2d⟩, ⟨d0d, d1d, d2d⟩, ⟨e0d, e1d, e2d⟩⟩) ((first | (go_at_call 13; with_reducible refine Calls.mono (unhide L1 _ (by first | exact bel_dr (Below.refl _ _) | exact Below.refl _ _)) ?_; rintro e wa ⟨ga, rfl, Ga⟩; have Ua : Hid (Below w7.heap.size w7 wa) := hide (bel_into (by first | exact bel_dr (Below.refl _ _) | exact Below.refl _ _) Ga.bel); have Pa := hide Ga.row; obtain ⟨⟨c0a, c1a, c2a⟩, ⟨d0a, d1a, d2a⟩, ⟨e0a, e1a, e2a⟩, hma, hya, hva⟩ := three_at (unhide X7) (unhide Y7) (unhide V7) (unhide Ua); clear Ga) | (go_at_call 12; with_reducible refine Calls.mono (rsame12 W H n n ((unhide R7).below (unhide Ua)).pixs (unhide Pa).pixs (by omega)) ?_; rintro e wb ⟨rfl, bb⟩; have Ub := hide (bel_into (unhide Ua) bb); obtain ⟨⟨c0b, c1b, c2b⟩, ⟨d0b, d1b, d2b⟩, ⟨e0b, e1b, e2b⟩, hmb, hyb, hvb⟩ := three_at (unhide X7) (unhide Y7) (unhide V7) (unhide Ub); clear bb) | (go_at_call 13; with_reducible refine Calls.mono (unhide L2 _ (unhide Ub)) ?_; rintro e wk ⟨gc, rfl, Gc⟩; have Uc := hide (bel_into (unhide Ub) Gc.bel); have Pc := hide Gc.row; obtain ⟨⟨c0c, c1c, c2c⟩, ⟨d0c, d1c, d2c⟩, ⟨e0c, e1c, e2c⟩, hmc, hyc, hvc⟩ := three_at (unhide X7) (unhide Y7) (unhide V7) (unhide Uc); clear Gc) | (go_at_call 12; with_reducible refine Calls.mono (rsame12 W H n n ((unhide S7).below (unhide Uc)).pixs (unhide Pc).pixs (by omega)) ?_; rintro e wd ⟨rfl, bd⟩; have Ud := hide (bel_into (unhide Uc) bd); obtain ⟨⟨c0d, c1d, c2d⟩, ⟨d0d, d1d, d2d⟩, ⟨e0d, e1d, e2d⟩, hmd, hyd, hvd⟩ := three_at (unhide X7) (unhide Y7) (unhide V7) (unhide Ud); clear bd)))
        all_goals go_wp2
        all_goals go_ret
        all_goals exact ⟨rfl, bel_into (unhide B7) (unhide Ud)⟩
      · have HS := hide hs
        clear hs w0_2
        go_enter Try.func3, Try.ntmps3
        go_wp2_with fail
        refine (forth8_no a0_0 a0_1 a1 a0_2 a2 len0_2 cap0_2 len2 cap2 _ _ (by omega) ((unhide MDS).below (unhide BL)) (unhide HS)).mono ?_
        rintro e w3 ⟨rfl, b3⟩
        have B3 := hide (bel_into (bel_into (unhide BL) b3) (bel_a1 w3 (.cells #[.int .i64 0, .int .i64 0, .slice none 0 0] 24)))
        have X3 := hide ((unhide BX).below b3 (unhide BX).lt)
        obtain ⟨⟨c0, c1, c2⟩, _⟩ := box_cells (unhide X3)
        have hm3 := (unhide X3).lt
        clear b3
        go_wp2_with fail
        refine (back9_no a0_0 a0_1 a1 a0_2 a2 len0_2 cap0_2 len2 cap2 _ _ (by omega) ((unhide MDS).below (unhide B3)) (unhide HS)).mono ?_
        rintro e w4 ⟨rfl, b4⟩
        have XX := hide (bel_into (bel_a1 w3 (.cells #[.int .i64 0, .int .i64 0, .slice none 0 0] 24)) b4)
        have A4 := hide (bel_a1 w4 (.cells #[.int .i64 0, .int .i64 0, .slice none 0 0] 24))
        have B4 := hide (bel_into (bel_into (unhide B3) b4) (unhide A4))
        have X4 := hide ((unhide X3).below (unhide XX) (unhide X3).lt)
        have Y4 := hide ((Box.made w3 24 #[.int .i64 0, .int .i64 0, .slice none 0 0]).below b4 (Box.made w3 24 #[.int .i64 0, .int .i64 0, .slice none 0 0]).lt)
        have V4 := hide (Box.made w4 24 #[.int .i64 0, .int .i64 0, .slice none 0 0])
        clear b4 c0 c1 c2 hm3 X3 B3
        generalize w3.heap.size = gx at *
        obtain ⟨⟨c0, c1, c2⟩, _⟩ := box_cells (unhide X4)
        have hm4 := (unhide X4).lt
        go_wp2_with fail
        refine (rmodes10 a0_0 a0_1 a1 a0_2 a2 len0_2 cap0_2 len2 cap2 _ _ (by omega) ((unhide MDS).below (unhide B4))).mono ?_
        rintro e w5 ⟨rfl, b5⟩
        have U5 := hide (bel_into (unhide A4) b5)
        have X5 := hide ((unhide X4).below (unhide U5) (unhide X4).lt)
        have Y5 := hide ((unhide Y4).below (unhide U5) (unhide Y4).lt)
        have V5 := hide ((unhide V4).below b5 (unhide V4).lt)
        have B5 := hide (bel_into (unhide B4) b5)
        clear b5 c0 c1 c2 hm4 X4 B4 Y4 V4 A4 U5
        generalize w4.heap.size = gy at *
        rw [unhide HS]
        go_wp2_with fail
        refine (ans7 _).mono ?_
        rintro e w6 ⟨rfl, b6⟩
        have X6 := hide ((unhide X5).below b6 (unhide X5).lt)
        have Y6 := hide ((unhide Y5).below b6 (unhide Y5).lt)
        have V6 := hide ((unhide V5).below b6 (unhide V5).lt)
        have B6 := hide (bel_into (unhide B5) b6)
        clear b6 X5 B5 Y5 V5
        obtain ⟨⟨c0, c1, c2⟩, _⟩ := box_cells (unhide X6)
        have hm6 := (unhide X6).lt
        go_wp2_with fail
        refine (sound11 a0_0 a0_1 a1 a0_2 a2 len0_2 cap0_2 len2 cap2 _ _ (by omega) ((unhide MDS).below (unhide B6))).mono ?_
        rintro e w7 ⟨rfl, b7⟩
        have Y7 := hide ((unhide Y6).below b7 (unhide Y6).lt)
        have V7 := hide ((unhide V6).below b7 (unhide V6).lt)
        have B7 := hide (bel_into (unhide B6) b7)
        clear b7 X6 B6 Y6 V6 c0 c1 c2 hm6
        rw [unhide HS]
        obtain ⟨⟨d0, d1, d2⟩, _⟩ := box_cells (unhide Y7)
        obtain ⟨⟨e0, e1, e2⟩, _⟩ := box_cells (unhide V7)
        have hy7 := (unhide Y7).lt
        have hv7 := (unhide V7).lt
        go_wp2
        go_ret
        exact ⟨rfl, unhide B7⟩

set_option maxRecDepth 100000 in
theorem lifted (os : Os) (started : os.Started) (H : Type) (enc : TypeId × Value → H) :
    ReturnsInHanded {} Try.checked os 3 .any (Rows.leanTurnsSpec.pre6 enc Try.prog Try.f3 Rows.leanTurnsRow.domain false) (Rows.leanTurnsSpec.post enc Try.prog Try.f3 false true false false) := by
  refine returnsInHanded_of_change (C := Try.checked) own started (by kernel_rfl) Try.func3
    (ChangeSpec.witness6 (enc := enc) (C := Try.checked) false ⟨#[], #[.agg #[.int .i64 0, .int .i64 0, .slice none 0 0], .int .i64 0, .slice none 0 0], []⟩ 8 (by kernel_rfl) (by kernel_rfl) (by kernel_rfl) (by kernel_rfl)) ?_
  intro W base args ds gs before hval0 hW hcnd _
  have hval : ∀ (j : Nat) t v, Try.f3.params[j]? = some t → args[j]? = some v → Value.okWide Try.prog W .any base t v := hval0
  have hW' := hW
  obtain ⟨p, q, hA0, hV, rfl, hfz, hnd⟩ := hW
  have hA : DataW.TrodAll enc Try.prog W 0 (fun _ => true) true Try.f3.params.toList args.toList ds p := hA0
  rw [Try.params3] at hA hval
  obtain ⟨v0, vs0, d0, ds0, p0, q0, hargs, rfl, rfl, h0, r0⟩ := trodAll_cons hA
  obtain ⟨v1, vs1, d1, ds1, p1, q1, rfl, rfl, rfl, h1, r1⟩ := trodAll_cons r0
  obtain ⟨v2, vs2, d2, ds2, p2, q2, rfl, rfl, rfl, h2, r2⟩ := trodAll_cons r1
  obtain ⟨rfl, rfl, rfl⟩ := trodAll_nil r2
  obtain rfl : args = #[v0, v1, v2] := by cases args; simp_all
  obtain ⟨rfl, rfl⟩ := trodVars_none hV
  have k0 := h0
  have lt0 : ∀ x ∈ p0, x.block < W.heap.size := by obtain ⟨m, hm⟩ := k0; exact DataW.trod_lt m _ _ _ hm
  obtain ⟨c0_0, c0_1, c0_2, y0_0, y0_1, y0_2, m0, rfl, _, _, hy0_0, hy0_1, hy0_2⟩ := Go.Joins.open_agg3 Try.underlying24 (by kernel_rfl) (by kernel_rfl) (hval 0 24 v0 rfl rfl) h0
  obtain ⟨a0_0, e0_0, _, w0_0⟩ := DataW.trod_int Try.underlying3 hy0_0
  simp only [List.cons.injEq, and_true] at e0_0
  subst e0_0
  obtain ⟨a0_1, e0_1, _, w0_1⟩ := DataW.trod_int Try.underlying3 hy0_1
  simp only [List.cons.injEq, and_true] at e0_1
  subst e0_1
  obtain ⟨a0_2, len0_2, cap0_2, e0_2⟩ := Go.Joins.slice_form Try.underlying22 hy0_2
  simp only [List.cons.injEq, and_true] at e0_2
  subst e0_2
  obtain ⟨z0_2, w0_2⟩ : ∃ zs, IsRow .u32 W a0_2 len0_2 cap0_2 zs := by
    rcases open_ints Try.underlying22 Try.underlying38 (by kernel_rfl) hy0_2 with ⟨hcs, _⟩ | ⟨x, l, c, zs, hcs, _, hl, hm, hz, _, hcell, hwz⟩
    · simp at hcs
      obtain ⟨rfl, rfl, rfl⟩ := hcs
      exact ⟨[], .inl ⟨rfl, rfl, rfl, rfl⟩⟩
    · simp at hcs
      obtain ⟨rfl, rfl, rfl⟩ := hcs
      exact ⟨zs, .inr ⟨_, rfl, hl, hm, by simpa using hz, hcell, hwz⟩⟩
  obtain ⟨a1, rfl, rfl, rfl, w1⟩ := open_int Try.underlying3 (hval 1 3 v1 rfl rfl) h1
  obtain ⟨a2, len2, cap2, rfl⟩ := okWide_slice Try.underlying25 (hval 2 25 v2 rfl rfl)
  have k2 := h2
  have lt2 : ∀ x ∈ p2, x.block < W.heap.size := by obtain ⟨m, hm⟩ := k2; exact DataW.trod_lt m _ _ _ hm
  obtain ⟨z2, w2⟩ : ∃ zs, IsRow .i64 W a2 len2 cap2 zs := by
    obtain ⟨fuel, hf⟩ := h2
    rcases open_ints Try.underlying25 Try.underlying3 (by kernel_rfl) hf with ⟨hcs, _⟩ | ⟨x, l, c, zs, hcs, _, hl, hm, hz, _, hcell, hwz⟩
    · simp [Value.cells] at hcs
      obtain ⟨rfl, rfl, rfl⟩ := hcs
      exact ⟨[], .inl ⟨rfl, rfl, rfl, rfl⟩⟩
    · simp [Value.cells] at hcs
      obtain ⟨rfl, rfl, rfl⟩ := hcs
      exact ⟨zs, .inr ⟨_, rfl, hl, hm, by simpa using hz, hcell, hwz⟩⟩
  clear hA0 hval0
  refine (walk a0_0 a0_1 a0_2 len0_2 cap0_2 z0_2 a1 a2 len2 cap2 z2 W w0_0 w0_1 w0_2 w1 w2).mono fun e W' ⟨he, bel⟩ => ?_
  subst he
  exact ⟨_, rfl, _, _, _, [], _, [], hW', trodAll_mk1 (shut_bool Try.underlying4 _), (trodAll_cons_mk (Below.trod laidOut (by kernel_rfl) (of_decide_eq_true (by kernel_rfl)) k0 bel lt0) (trodAll_cons_mk (shut_int Try.underlying3 w1) (trodAll_cons_mk (Below.trod laidOut (by kernel_rfl) (of_decide_eq_true (by kernel_rfl)) k2 bel lt2) trodAll_mk0))), rfl, bel.frame _, fun h => by cases h⟩

theorem over : Rows.leanTurnsRow.holds Try.pinned (OpenSpec.ofChange Rows.leanTurnsSpec) :=
  OpenClaim.holds_of_wide 3 Try.f3 rfl rfl rfl rfl rfl rfl rfl ⟨rfl, rfl, rfl, rfl, rfl⟩ rfl rfl rfl rfl rfl (by kernel_rfl) Try.func3 (by kernel_rfl)
    (of_decide_eq_true (by kernel_rfl)) (by unfold Func.isWrapper; first | (rw [if_pos (by decide +kernel)]; kernel_rfl) | (rw [if_neg (by decide +kernel)]; exact ⟨rfl, rfl⟩))
    (fun os started H enc _ => lifted os started H enc)

/-- The statement. -/
theorem proved : Rows.LeanTurnsSaid := over
#print axioms proved
end Go.Proofs.Ytnfokdcoelignaa.leanTurns
