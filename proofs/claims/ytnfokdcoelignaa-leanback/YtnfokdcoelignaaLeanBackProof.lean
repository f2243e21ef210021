/-
  What is proved: Forth and back an image is itself, and back and forth, and the image handed in is as it was: the Go function LeanBack of the statements of layer 13 returns true for all arguments.
  Conditions: none.
-/
import Derived.Test.YtnfokdcoelignaaRows
import Derived.Test.YtnfokdcoelignaaLAns
import Derived.Test.YtnfokdcoelignaaLRef
import Derived.Test.YtnfokdcoelignaaLGth
import Derived.Test.YtnfokdcoelignaaLInp
import Derived.WalkKit
import Derived.ProofKit
import Derived.OpenShut
import Derived.ShutString
import Derived.ChangeOld
import Derived.Below
import Derived.Deep.Grids
import Derived.Lib.SmallJoins
namespace Go.Proofs.Ytnfokdcoelignaa.leanBack
open Go.ChangeShapes Go.WideShapes Go.ChangeAt Go.RowKit
open Go.Proofs.Ytnfokdcoelignaa.Core Go.Proofs.Ytnfokdcoelignaa.PNum Go.Proofs.Ytnfokdcoelignaa.PFun Go.Proofs.Ytnfokdcoelignaa.PRfn Go.Proofs.Ytnfokdcoelignaa.PGoo Go.Proofs.Ytnfokdcoelignaa.GGue Go.Proofs.Ytnfokdcoelignaa.GImg Go.Proofs.Ytnfokdcoelignaa.GAro Go.Proofs.Ytnfokdcoelignaa.GAtt Go.Proofs.Ytnfokdcoelignaa.GCpy Go.Proofs.Ytnfokdcoelignaa.LBlk Go.Proofs.Ytnfokdcoelignaa.LMod Go.Proofs.Ytnfokdcoelignaa.LSnd Go.Proofs.Ytnfokdcoelignaa.LEch Go.Proofs.Ytnfokdcoelignaa.LNum Go.Proofs.Ytnfokdcoelignaa.LFor Go.Proofs.Ytnfokdcoelignaa.LAns Go.Proofs.Ytnfokdcoelignaa.LRef Go.Proofs.Ytnfokdcoelignaa.LGth Go.Proofs.Ytnfokdcoelignaa.LInp
open Go.ChangeMaps (open_string shut_string)
set_option linter.unusedVariables false

theorem own : ownKnob Try.prog.godebug = none := by kernel_rfl
theorem laidOut : laidOutB Try.prog = true := by kernel_rfl

/-- A slice of integers that came in: nil, or a row of cells, each fitting its kind. -/
def IsRow (k : IntKind) (w : World) (a : Option Addr) (len cap : Nat) (zs : List Int) : Prop :=
  (a = none ∧ len = 0 ∧ cap = 0 ∧ zs = []) ∨
  ∃ x, a = some x ∧ len ≤ cap ∧ cap ≤ maxLen ∧ zs.length = cap ∧ (∀ i, i < zs.length → w.cell? (x.add i) = some (.int k (zs.getD i 0))) ∧ ∀ n ∈ zs, (Lit.int k n).wf = true
/-- A slice of bools that came in. -/
def IsBools (w : World) (a : Option Addr) (len cap : Nat) (B : Nat → Bool) : Prop :=
  (a = none ∧ len = 0 ∧ cap = 0) ∨ ∃ x, a = some x ∧ len ≤ cap ∧ cap ≤ maxLen ∧ ∀ i, i < cap → w.cell? (x.add i) = some (.bool (B i))
open Go.Sort
theorem own_empty (w : World) : (w.alloc (.cells #[] 38)).ownsRow w.heap.size 38 1 (.slice (some ⟨w.heap.size, 0, none⟩) 0 0) 0 [] :=
  ⟨rfl, .inr ⟨w.heap.size, 0, #[], rfl, Nat.le_refl _, Box.made w 38 #[], Nat.le_refl _, by unfold maxLen; omega, rfl, rfl⟩⟩
theorem pc_one (z : Nat → Nat) (n : Nat) : ∀ u ∈ pcells z n, u.oneCell' = true := by
  intro u hu
  simp [pcells] at hu
  obtain ⟨i, _, rfl⟩ := hu
  rfl
def imgv (W H g off n c : Nat) : Array Value := #[.int .i64 W, .int .i64 H, .slice (some ⟨g, off, none⟩) n c]
theorem img_own {w : World} {W H g n : Nat} {f : Nat → Nat} (hW : W ≤ 16384) (hH : H ≤ 16384) (hn : n = W * H) (P : Pow w g n f) : Img w W H g 0 n f := ⟨hW, hH, hn, P.pixs⟩
theorem gd_of_so {W H : Int} {n : Nat} {bits : Int} {m : Nat} {md : Nat → Int} (h : soV W H n bits m md = true) : gdV W H n = true := by
  unfold soV at h
  simp only [Bool.and_eq_true] at h
  exact h.1
set_option maxRecDepth 20000 in
set_option maxHeartbeats 1000000 in
theorem walk (a0_0 : Int) (a0_1 : Int) (a0_2 : Option Addr) (len0_2 cap0_2 : Nat) (z0_2 : List Int) (a1 : Int) (a2 : Option Addr) (len2 cap2 : Nat) (z2 : List Int) (w : World) (w0_0 : (Lit.int .i64 a0_0).wf = true) (w0_1 : (Lit.int .i64 a0_1).wf = true) (w0_2 : IsRow .u32 w a0_2 len0_2 cap0_2 z0_2) (w1 : (Lit.int .i64 a1).wf = true) (w2 : IsRow .i64 w a2 len2 cap2 z2) :
    Calls Try.prog 4 #[.agg #[.int .i64 a0_0, .int .i64 a0_1, .slice a0_2 len0_2 cap0_2], .int .i64 a1, .slice a2 len2 cap2] w fun e w' => e = .returned (.bool true) ∧ Below w.heap.size w w' := by
  have BL := hide (bel_a1 w (.cells #[.int .i64 a0_0, .int .i64 a0_1, .slice a0_2 len0_2 cap0_2] 24))
  have BX := hide (Box.made w 24 #[.int .i64 a0_0, .int .i64 a0_1, .slice a0_2 len0_2 cap0_2])
  have MDS := hide (mds_of w2)
  clear w0_0 w0_1 w1 w2
  by_cases hbig : 2000 < len0_2
  · clear w0_2 MDS
    go_enter Try.func4, Try.ntmps4
    go_wp2_with fail
    refine (ans7 _).mono ?_
    rintro e w9 ⟨rfl, b9⟩
    have B9 := hide (bel_into (unhide BL) b9)
    clear b9
    go_wp2
    go_ret
    exact ⟨rfl, unhide B9⟩
  · have hsm : len0_2 ≤ 2000 := by omega
    clear hbig
    by_cases hbig2 : 2000 < len2
    · clear w0_2 MDS
      go_enter Try.func4, Try.ntmps4
      go_wp2_with fail
      refine (ans7 _).mono ?_
      rintro e w9 ⟨rfl, b9⟩
      have B9 := hide (bel_into (unhide BL) b9)
      clear b9
      go_wp2
      go_ret
      exact ⟨rfl, unhide B9⟩
    · have hsm2 : len2 ≤ 2000 := by omega
      clear hbig2
      rcases Bool.eq_false_or_eq_true (soV a0_0 a0_1 len0_2 a1 len2 (fun i => z2.getD i 0)) with hs | hs
      · have HS := hide hs
        obtain ⟨i0, hi0, hz0, hz1, hz2⟩ := info_parts GCpy.info22
        obtain ⟨W, H, k, eW, eH, ek, hW1, hW, hH1, hH, hn', hk2, hk, hm, hmd⟩ := so_of hs
        obtain ⟨b, off, z, W2, H2, rfl, eW2, eH2, I, _, _, zb⟩ := img_of w0_2 (gd_of_so hs)
        obtain rfl : W = W2 := by omega
        obtain rfl : H = H2 := by omega
        subst eW eH ek
        clear eW2 eH2 w0_2 hmd
        have hm0 : 0 < len2 := by rw [hm]; exact Nat.mul_pos (bl_pos k hW1) (bl_pos k hH1)
        obtain ⟨mb, mo, rfl⟩ := mds_some (unhide MDS) hm0
        obtain ⟨n, hne⟩ : ∃ n, n = len0_2 := ⟨_, rfl⟩
        subst hne
        have hn0 : 0 < n := by rw [hn']; exact Nat.mul_pos hW1 hH1
        have HN := hide hn'
        have I0 := hide I
        have M0 := hide (unhide MDS)
        have ZB := hide zb
        clear I hn' zb hm hs
        go_enter Try.func4, Try.ntmps4
        go_wp2_with fail
        refine (rmodes10 W H k (some ⟨b, off, none⟩) (some ⟨mb, mo, none⟩) n cap0_2 len2 cap2 _ _ (by omega) ((unhide MDS).below (unhide BL))).mono ?_
        rintro e w1 ⟨rfl, b1⟩
        have B1 := hide (bel_into (unhide BL) b1)
        have X1 := hide ((unhide BX).below b1 (unhide BX).lt)
        obtain ⟨⟨c0, c1, c2⟩, _⟩ := box_cells (unhide X1)
        have hm1 := (unhide X1).lt
        clear b1
        rw [unhide HS]
        obtain ⟨⟨c0', c1', c2'⟩, _⟩ := box_cells (unhide X1)
        clear c0' c1' c2'
        go_wp2_with (first | (at_builtin; refine wpList_append_own _ rfl (.tmp 33) (.tmp 35) 22 rfl w1.heap.size 38 i0 (.int .u32 0) 1 4 Try.underlying22 hi0 hz0 hz1 hz2 rfl (by decide) _ 0 [] rfl (own_empty w1) ⟨b, off, none⟩ n cap0_2 (pcells z n) rfl (by rw [pcells_len, Nat.mul_one]) (news_of ((unhide I0).px.below (bel_into (unhide B1) (bel_a1 _ _)))) (pc_one z n) (by unfold maxLen; omega) (by omega) (by simp) ?_; intro v2 w2 own2 gr2 _; rw [Nat.zero_add, List.nil_append] at own2; have U2 := hide ((bel_a1 w1 (.cells #[] 38)).grown gr2 (by simp) (fun k e => by cases e; exact Nat.le_refl _)); obtain ⟨gi, ci, rfl, pi, _, _⟩ := own_pow own2 hn0; have PI := hide pi; have X2 := hide ((unhide X1).below (unhide U2) (unhide X1).lt); clear c0 c1 c2 hm1; obtain ⟨⟨c0, c1, c2⟩, _⟩ := box_cells (unhide X2); have hm2 := (unhide X2).lt; have B2 := hide (bel_into (unhide B1) (unhide U2)); clear own2 gr2 pi) | fail)
        refine (forth8 (k := k) cap0_2 cap2 ((unhide I0).below (unhide B2)) ((unhide M0).below (unhide B2)) (by omega) (by omega) (unhide HS)).mono ?_
        rintro e w3 ⟨g1, rfl, G⟩
        have X3 := hide ((unhide X2).below G.bel (unhide X2).lt)
        have PI3 := hide ((unhide PI).below G.bel)
        have R3 := hide G.row
        have B3 := hide (bel_into (unhide B2) G.bel)
        have A3 := hide (bel_a1 w3 (.cells #[.int .i64 W, .int .i64 H, .slice (some ⟨g1, 0, none⟩) n n] 24))
        clear G c0 c1 c2 hm2 PI X2 B2 U2 X1 B1
        obtain ⟨⟨c0, c1, c2⟩, _⟩ := box_cells (unhide X3)
        have hm3 := (unhide X3).lt
        go_wp2_with fail
        refine (back9 (k := k) n cap2 (img_own hW hH (unhide HN) ((unhide R3).below (unhide A3))) ((unhide M0).below (bel_into (unhide B3) (unhide A3))) (by omega) (by omega) (unhide HS)).mono ?_
        rintro e w4 ⟨g2, rfl, G⟩
        have U4 := hide (bel_into (unhide A3) G.bel)
        have X4 := hide ((unhide X3).below (unhide U4) (unhide X3).lt)
        have PI4 := hide ((unhide PI3).below (unhide U4))
        have R4 := hide (G.row.congr (ba_fo k _ z hW1 (unhide ZB) (fun j _ => rfl)))
        have B4 := hide (bel_into (unhide B3) (unhide U4))
        have A4 := hide (bel_a1 w4 (.cells #[.int .i64 W, .int .i64 H, .slice (some ⟨g2, 0, none⟩) n n] 24))
        have Y4 := hide (Box.made w4 24 #[.int .i64 W, .int .i64 H, .slice (some ⟨g2, 0, none⟩) n n])
        clear G c0 c1 c2 hm3 R3 A3 X3 PI3 B3 U4
        obtain ⟨⟨c0, c1, c2⟩, _⟩ := box_cells (unhide X4)
        have hm4 := (unhide X4).lt
        go_wp2_with fail
        refine (back9 (k := k) cap0_2 cap2 ((unhide I0).below (bel_into (unhide B4) (unhide A4))) ((unhide M0).below (bel_into (unhide B4) (unhide A4))) (by omega) (by omega) (unhide HS)).mono ?_
        rintro e w5 ⟨g3, rfl, G⟩
        have U5 := hide (bel_into (unhide A4) G.bel)
        have X5 := hide ((unhide X4).below (unhide U5) (unhide X4).lt)
        have Y5 := hide ((unhide Y4).below G.bel (unhide Y4).lt)
        have RY5 := hide ((unhide R4).below (unhide U5))
        have PI5 := hide ((unhide PI4).below (unhide U5))
        have R5 := hide G.row
        have B5 := hide (bel_into (unhide B4) (unhide U5))
        have A5 := hide (bel_a1 w5 (.cells #[.int .i64 W, .int .i64 H, .slice (some ⟨g3, 0, none⟩) n n] 24))
        clear G c0 c1 c2 hm4 A4 X4 PI4 B4 U5 Y4 R4
        generalize w4.heap.size = gy at *
        obtain ⟨⟨c0, c1, c2⟩, _⟩ := box_cells (unhide X5)
        have hm5 := (unhide X5).lt
        go_wp2_with fail
        refine (forth8 (k := k) n cap2 (img_own hW hH (unhide HN) ((unhide R5).below (unhide A5))) ((unhide M0).below (bel_into (unhide B5) (unhide A5))) (by omega) (by omega) (unhide HS)).mono ?_
        rintro e w6 ⟨g4, rfl, G⟩
        have U6 := hide (bel_into (unhide A5) G.bel)
        have X6 := hide ((unhide X5).below (unhide U6) (unhide X5).lt)
        have Y6 := hide ((unhide Y5).below (unhide U6) (unhide Y5).lt)
        have RY6 := hide ((unhide RY5).below (unhide U6))
        have PI6 := hide ((unhide PI5).below (unhide U6))
        have R6 := hide (G.row.congr (fun j hj => fo_ba k _ z hW1 (unhide ZB j hj)))
        have B6 := hide (bel_into (unhide B5) (unhide U6))
        have A6 := hide (bel_a1 w6 (.cells #[.int .i64 W, .int .i64 H, .slice (some ⟨g4, 0, none⟩) n n] 24))
        have V6 := hide (Box.made w6 24 #[.int .i64 W, .int .i64 H, .slice (some ⟨g4, 0, none⟩) n n])
        clear G c0 c1 c2 hm5 R5 A5 X5 PI5 B5 U6 Y5 RY5
        go_wp2_with fail
        refine (ans7 _).mono ?_
        rintro e w7 ⟨rfl, b7⟩
        have U7 := hide (bel_into (unhide A6) b7)
        have X7 := hide ((unhide X6).below (unhide U7) (unhide X6).lt)
        have Y7 := hide ((unhide Y6).below (unhide U7) (unhide Y6).lt)
        have V7 := hide ((unhide V6).below b7 (unhide V6).lt)
        have RY7 := hide ((unhide RY6).below (unhide U7))
        have PI7 := hide ((unhide PI6).below (unhide U7))
        have R7 := hide ((unhide R6).below (unhide U7))
        have B7 := hide (bel_into (unhide B6) (unhide U7))
        clear b7 A6 X6 Y6 V6 RY6 PI6 R6 B6 U7
        generalize w6.heap.size = gv at *
        obtain ⟨⟨c0, c1, c2⟩, _⟩ := box_cells (unhide X7)
        obtain ⟨⟨d0, d1, d2⟩, _⟩ := box_cells (unhide Y7)
        obtain ⟨⟨e0, e1, e2⟩, _⟩ := box_cells (unhide V7)
        have hm7 := (unhide X7).lt
        have hy7 := (unhide Y7).lt
        have hv7 := (unhide V7).lt
        go_wp2_with fail
        refine (rsame12 W H n cap0_2 (unhide RY7).pixs ((unhide I0).px.below (unhide B7)) (by omega)).mono ?_
        rintro e w8 ⟨rfl, b8⟩
        have X8 := hide ((unhide X7).below b8 (unhide X7).lt)
        have V8 := hide ((unhide V7).below b8 (unhide V7).lt)
        have PI8 := hide ((unhide PI7).below b8)
        have R8 := hide ((unhide R7).below b8)
        have B8 := hide (bel_into (unhide B7) b8)
        clear b8 c0 c1 c2 d0 d1 d2 e0 e1 e2 hm7 hy7 hv7 X7 Y7 V7 RY7 PI7 R7 B7
        obtain ⟨⟨c0, c1, c2⟩, _⟩ := box_cells (unhide X8)
        obtain ⟨⟨e0, e1, e2⟩, _⟩ := box_cells (unhide V8)
        have hm8 := (unhide X8).lt
        have hv8 := (unhide V8).lt
        go_wp2_with fail
        refine (rsame12 W H n cap0_2 (unhide R8).pixs ((unhide I0).px.below (unhide B8)) (by omega)).mono ?_
        rintro e w9 ⟨rfl, b9⟩
        have X9 := hide ((unhide X8).below b9 (unhide X8).lt)
        have PI9 := hide ((unhide PI8).below b9)
        have B9 := hide (bel_into (unhide B8) b9)
        clear b9 c0 c1 c2 e0 e1 e2 hm8 hv8 X8 V8 PI8 R8 B8
        obtain ⟨⟨c0, c1, c2⟩, _⟩ := box_cells (unhide X9)
        have hm9 := (unhide X9).lt
        go_wp2_with fail
        refine (rpix14 ci cap0_2 (unhide PI9).pixs ((unhide I0).px.below (unhide B9)) (by omega)).mono ?_
        rintro e w10 ⟨rfl, b10⟩
        have B10 := hide (bel_into (unhide B9) b10)
        clear b10 c0 c1 c2
        go_wp2
        go_ret
        exact ⟨rfl, unhide B10⟩
      · have HS := hide hs
        clear hs w0_2
        go_enter Try.func4, Try.ntmps4
        go_wp2_with fail
        refine (rmodes10 a0_0 a0_1 a1 a0_2 a2 len0_2 cap0_2 len2 cap2 _ _ (by omega) ((unhide MDS).below (unhide BL))).mono ?_
        rintro e w1 ⟨rfl, b1⟩
        have B1 := hide (bel_into (unhide BL) b1)
        have X1 := hide ((unhide BX).below b1 (unhide BX).lt)
        obtain ⟨⟨c0, c1, c2⟩, _⟩ := box_cells (unhide X1)
        have hm1 := (unhide X1).lt
        clear b1
        rw [unhide HS]
        clear c0 c1 c2
        go_wp2_with fail
        refine (ans7 _).mono ?_
        rintro e w9 ⟨rfl, b9⟩
        have B9 := hide (bel_into (unhide B1) b9)
        clear b9
        go_wp2
        go_ret
        exact ⟨rfl, unhide B9⟩

set_option maxRecDepth 100000 in
theorem lifted (os : Os) (started : os.Started) (H : Type) (enc : TypeId × Value → H) :
    ReturnsInHanded {} Try.checked os 4 .any (Rows.leanBackSpec.pre6 enc Try.prog Try.f4 Rows.leanBackRow.domain false) (Rows.leanBackSpec.post enc Try.prog Try.f4 false true false false) := by
  refine returnsInHanded_of_change (C := Try.checked) own started (by kernel_rfl) Try.func4
    (ChangeSpec.witness6 (enc := enc) (C := Try.checked) false ⟨#[], #[.agg #[.int .i64 0, .int .i64 0, .slice none 0 0], .int .i64 0, .slice none 0 0], []⟩ 8 (by kernel_rfl) (by kernel_rfl) (by kernel_rfl) (by kernel_rfl)) ?_
  intro W base args ds gs before hval0 hW hcnd _
  have hval : ∀ (j : Nat) t v, Try.f4.params[j]? = some t → args[j]? = some v → Value.okWide Try.prog W .any base t v := hval0
  have hW' := hW
  obtain ⟨p, q, hA0, hV, rfl, hfz, hnd⟩ := hW
  have hA : DataW.TrodAll enc Try.prog W 0 (fun _ => true) true Try.f4.params.toList args.toList ds p := hA0
  rw [Try.params4] at hA hval
  obtain ⟨v0, vs0, d0, ds0, p0, q0, hargs, rfl, rfl, h0, r0⟩ := trodAll_cons hA
  obtain ⟨v1, vs1, d1, ds1, p1, q1, rfl, rfl, rfl, h1, r1⟩ := trodAll_cons r0
  obtain ⟨v2, vs2, d2, ds2, p2, q2, rfl, rfl, rfl, h2, r2⟩ := trodAll_cons r1
  obtain ⟨rfl, rfl, rfl⟩ := trodAll_nil r2
  obtain rfl : args = #[v0, v1, v2] := by cases args; simp_all
  obtain ⟨rfl, rfl⟩ := trodVars_none hV
  have k0 := h0
  have lt0 : ∀ x ∈ p0, x.block < W.heap.size := by obtain ⟨m, hm⟩ := k0; exact DataW.trod_lt m _ _ _ hm
  obtain ⟨c0_0, c0_1, c0_2, y0_0, y0_1, y0_2, m0, rfl, _, _, hy0_0, hy0_1, hy0_2⟩ := Go.Joins.open_agg3 Try.underlying24 (by kernel_rfl) (by kernel_rfl) (hval 0 24 v0 rfl rfl) h0
  obtain ⟨a0_0, e0_0, _, w0_0⟩ := DataW.trod_int Try.underlying3 hy0_0
  simp only [List.cons.injEq, and_true] at e0_0
  subst e0_0
  obtain ⟨a0_1, e0_1, _, w0_1⟩ := DataW.trod_int Try.underlying3 hy0_1
  simp only [List.cons.injEq, and_true] at e0_1
  subst e0_1
  obtain ⟨a0_2, len0_2, cap0_2, e0_2⟩ := Go.Joins.slice_form Try.underlying22 hy0_2
  simp only [List.cons.injEq, and_true] at e0_2
  subst e0_2
  obtain ⟨z0_2, w0_2⟩ : ∃ zs, IsRow .u32 W a0_2 len0_2 cap0_2 zs := by
    rcases open_ints Try.underlying22 Try.underlying38 (by kernel_rfl) hy0_2 with ⟨hcs, _⟩ | ⟨x, l, c, zs, hcs, _, hl, hm, hz, _, hcell, hwz⟩
    · simp at hcs
      obtain ⟨rfl, rfl, rfl⟩ := hcs
      exact ⟨[], .inl ⟨rfl, rfl, rfl, rfl⟩⟩
    · simp at hcs
      obtain ⟨rfl, rfl, rfl⟩ := hcs
      exact ⟨zs, .inr ⟨_, rfl, hl, hm, by simpa using hz, hcell, hwz⟩⟩
  obtain ⟨a1, rfl, rfl, rfl, w1⟩ := open_int Try.underlying3 (hval 1 3 v1 rfl rfl) h1
  obtain ⟨a2, len2, cap2, rfl⟩ := okWide_slice Try.underlying25 (hval 2 25 v2 rfl rfl)
  have k2 := h2
  have lt2 : ∀ x ∈ p2, x.block < W.heap.size := by obtain ⟨m, hm⟩ := k2; exact DataW.trod_lt m _ _ _ hm
  obtain ⟨z2, w2⟩ : ∃ zs, IsRow .i64 W a2 len2 cap2 zs := by
    obtain ⟨fuel, hf⟩ := h2
    rcases open_ints Try.underlying25 Try.underlying3 (by kernel_rfl) hf with ⟨hcs, _⟩ | ⟨x, l, c, zs, hcs, _, hl, hm, hz, _, hcell, hwz⟩
    · simp [Value.cells] at hcs
      obtain ⟨rfl, rfl, rfl⟩ := hcs
      exact ⟨[], .inl ⟨rfl, rfl, rfl, rfl⟩⟩
    · simp [Value.cells] at hcs
      obtain ⟨rfl, rfl, rfl⟩ := hcs
      exact ⟨zs, .inr ⟨_, rfl, hl, hm, by simpa using hz, hcell, hwz⟩⟩
  clear hA0 hval0
  refine (walk a0_0 a0_1 a0_2 len0_2 cap0_2 z0_2 a1 a2 len2 cap2 z2 W w0_0 w0_1 w0_2 w1 w2).mono fun e W' ⟨he, bel⟩ => ?_
  subst he
  exact ⟨_, rfl, _, _, _, [], _, [], hW', trodAll_mk1 (shut_bool Try.underlying4 _), (trodAll_cons_mk (Below.trod laidOut (by kernel_rfl) (of_decide_eq_true (by kernel_rfl)) k0 bel lt0) (trodAll_cons_mk (shut_int Try.underlying3 w1) (trodAll_cons_mk (Below.trod laidOut (by kernel_rfl) (of_decide_eq_true (by kernel_rfl)) k2 bel lt2) trodAll_mk0))), rfl, bel.frame _, fun h => by cases h⟩

theorem over : Rows.leanBackRow.holds Try.pinned (OpenSpec.ofChange Rows.leanBackSpec) :=
  OpenClaim.holds_of_wide 4 Try.f4 rfl rfl rfl rfl rfl rfl rfl ⟨rfl, rfl, rfl, rfl, rfl⟩ rfl rfl rfl rfl rfl (by kernel_rfl) Try.func4 (by kernel_rfl)
    (of_decide_eq_true (by kernel_rfl)) (by unfold Func.isWrapper; first | (rw [if_pos (by decide +kernel)]; kernel_rfl) | (rw [if_neg (by decide +kernel)]; exact ⟨rfl, rfl⟩))
    (fun os started H enc _ => lifted os started H enc)

/-- The statement. -/
theorem proved : Rows.LeanBackSaid := over
#print axioms proved
end Go.Proofs.Ytnfokdcoelignaa.leanBack
