/-
  What is proved: for every slice of colours, number of bits and slice of spans the Go function TokenCovers of the statements of layer 17 returns true, and its arguments read as before.
  Conditions: none.
-/
import Derived.Test.YtpkiilnkiidoiaaRows
import Derived.Test.YtpkiilnkiidoiaaKRc2
import Derived.Test.YtpkiilnkiidoiaaKRfi
import Derived.Test.YtpkiilnkiidoiaaKAns
import Derived.Test.YtpkiilnkiidoiaaKFin
import Derived.Test.YtpkiilnkiidoiaaKFit
import Derived.Test.YtpkiilnkiidoiaaKFt3
import Derived.WalkKit
import Derived.ProofKit
import Derived.OpenShut
import Derived.ShutString
import Derived.ChangeOld
import Derived.Below
import Derived.Deep.Grids
import Derived.Lib.SmallJoins
namespace Go.Proofs.Ytpkiilnkiidoiaa.tokenCovers
open Go.ChangeShapes Go.WideShapes Go.ChangeAt Go.RowKit
open Go.Proofs.Ytpkiilnkiidoiaa.Core Go.Proofs.Ytpkiilnkiidoiaa.CNum Go.Proofs.Ytpkiilnkiidoiaa.KNum Go.Proofs.Ytpkiilnkiidoiaa.KMem Go.Proofs.Ytpkiilnkiidoiaa.KInp Go.Proofs.Ytpkiilnkiidoiaa.KFit Go.Proofs.Ytpkiilnkiidoiaa.KFt3 Go.Proofs.Ytpkiilnkiidoiaa.KRfi Go.Proofs.Ytpkiilnkiidoiaa.KExp Go.Proofs.Ytpkiilnkiidoiaa.KCv2 Go.Proofs.Ytpkiilnkiidoiaa.KRc2 Go.Proofs.Ytpkiilnkiidoiaa.KAns Go.Proofs.Ytpkiilnkiidoiaa.KFin
open Go.ChangeMaps (open_string shut_string)
set_option linter.unusedVariables false

theorem own : ownKnob Try.prog.godebug = none := by kernel_rfl
theorem laidOut : laidOutB Try.prog = true := by kernel_rfl

/-- A slice of integers that came in: nil, or a row of cells, each fitting its kind. -/
def IsRow (k : IntKind) (w : World) (a : Option Addr) (len cap : Nat) (zs : List Int) : Prop :=
  (a = none ∧ len = 0 ∧ cap = 0 ∧ zs = []) ∨
  ∃ x, a = some x ∧ len ≤ cap ∧ cap ≤ maxLen ∧ zs.length = cap ∧ (∀ i, i < zs.length → w.cell? (x.add i) = some (.int k (zs.getD i 0))) ∧ ∀ n ∈ zs, (Lit.int k n).wf = true
/-- A slice of bools that came in. -/
def IsBools (w : World) (a : Option Addr) (len cap : Nat) (B : Nat → Bool) : Prop :=
  (a = none ∧ len = 0 ∧ cap = 0) ∨ ∃ x, a = some x ∧ len ≤ cap ∧ cap ≤ maxLen ∧ ∀ i, i < cap → w.cell? (x.add i) = some (.bool (B i))
theorem cov_len {b : Nat} {px : List Nat} : ∀ {nx : Nat} {ss : List Sp}, fitV px nx ss = true → nx ≤ px.length → (covP b px nx ss).length ≤ px.length - nx
  | nx, [], h, hn => by rw [covP, sngs_len, List.length_drop]; exact Nat.le_refl _
  | nx, s :: ss, h, hn => by
    obtain ⟨f1, f2, f3⟩ := fit_cons h
    obtain ⟨p, n, d, es, g1, g2, g3, g4, g5, g6, g7⟩ := fit_nat f2
    subst es
    simp only at f1 f3
    rw [show ((p : Int) + (n : Int)).toNat = p + n by omega] at f3
    have ih := cov_len (b := b) f3 g6
    rw [covP]
    simp only [Int.toNat_natCast]
    rw [show ((p : Int) + (n : Int)).toNat = p + n by omega, List.length_append, sngs_len, List.length_cons, sect_len _ _ _ (by omega)]
    omega
theorem a1_below {w w' : World} {r : Option Nat} (gr : (w.alloc (.cells #[] 35)).grownBy w' r) (h : r = some w.heap.size) : Below w.heap.size w w' :=
  (bel_a1 w _).grown gr (by simp) (fun k e => by rw [h] at e; cases e; exact Nat.le_refl _)
theorem grow_below {w0 w w' : World} {r : Option Nat} (B : Below w0.heap.size w0 w) (gr : (w.alloc (.cells #[] 35)).grownBy w' r) (h : r = some w.heap.size) : Below w0.heap.size w0 w' := bel_into B (a1_below gr h)
set_option maxRecDepth 20000 in
set_option maxHeartbeats 1000000 in
theorem walk (a0 : Option Addr) (len0 cap0 : Nat) (z0 : List Int) (a1 : Int) (a2 : Option Addr) (len2 cap2 : Nat) (w : World) (w0 : IsRow .u32 w a0 len0 cap0 z0) (w1 : (Lit.int .i64 a1).wf = true) (w2 : IsSps w a2 len2 cap2) :
    Calls Try.prog 4 #[.slice a0 len0 cap0, .int .i64 a1, .slice a2 len2 cap2] w fun e w' => e = .returned (.bool true) ∧ Below w.heap.size w w' := by
  have AN := hide answers8
  obtain ⟨px, hl, hcp, PX, HS⟩ := lst_in w0
  obtain ⟨ss, hsl, SP⟩ := sps_of w2
  have hcap : a0 = none → cap0 = 0 := fun e => by
    rcases w0 with ⟨_, _, h, _⟩ | ⟨x, h, _⟩
    · exact h
    · rw [e] at h; cases h
  by_cases h1 : 1000 < len0
  · have i1 : (1000 : Int) < (len0 : Int) := by omega
    clear w0 w1 w2 PX SP HS hcap
    go_enter Try.func4, Try.ntmps4
    go_wp2_with fail
    refine (unhide AN _).mono ?_
    rintro e w1 ⟨rfl, B1⟩
    have BB := hide B1
    clear B1
    go_wp2
    go_ret
    exact ⟨rfl, unhide BB⟩
  have i1 : ¬ (1000 : Int) < (len0 : Int) := by omega
  by_cases h2 : 200 < len2
  · have i2 : (200 : Int) < (len2 : Int) := by omega
    clear w0 w1 w2 PX SP HS hcap h1
    go_enter Try.func4, Try.ntmps4
    go_wp2_with fail
    refine (unhide AN _).mono ?_
    rintro e w1 ⟨rfl, B1⟩
    have BB := hide B1
    clear B1
    go_wp2
    go_ret
    exact ⟨rfl, unhide BB⟩
  have i2 : ¬ (200 : Int) < (len2 : Int) := by omega
  have HI := hide (And.intro hl (And.intro hcap (And.intro hsl (show len0 ≤ 1000 ∧ len2 ≤ 200 by omega))))
  have P0 := hide PX
  have S0 := hide SP
  have RF := hide (rfits12 (c := cap0) (c' := cap2) PX SP hl.symm (by omega) hsl.symm (by omega) (Nat.le_refl _))
  have HSM := hide HS
  have HCP := hide hcp
  clear w0 w1 w2 PX SP HS hcap hl hsl hcp h1 h2
  generalize hfv : fitV px 0 ss = fv at RF
  have FV := hide hfv
  clear hfv
  go_enter Try.func4, Try.ntmps4
  go_wp2_with fail
  refine (unhide RF).mono ?_
  rintro e w1 ⟨rfl, B1⟩
  have BA := hide B1
  have OE := own_empty w1 35 1
  clear B1 RF
  go_wp2_with (first | (at_builtin; refine app_lst rfl (.tmp 27) (.tmp 28) rfl w1.heap.size _ rfl OE w.heap.size a0 len0 cap0 px rfl (unhide HI).1 (((unhide P0).below (unhide BA)).below ((bel_a1 w1 _).mono (unhide BA).size)) (unhide HI).2.1 (by have := (unhide HI).2.2.2; omega) (by simp) ?_; intro a' c' wz hcc tk gr; have BC := hide (grow_below (unhide BA) gr rfl); have TK := hide tk; have HCC := hide hcc; clear tk gr hcc) | (go_at_call 13; fail))
  by_cases hbad : fv = false ∨ a1 < 0 ∨ 11 < a1
  · have CB := hide (cover13_bad (c := c') (c' := cap2) a1 (unhide TK) (((unhide S0).below (unhide BC)).mono (unhide BC).size) (unhide HI).1.symm (unhide HCC) (by have := (unhide HI).2.2.2; omega) (unhide HI).2.2.1.symm (by have := (unhide HI).2.2.2; omega) (Nat.le_refl _) (by rw [unhide FV]; exact hbad))
    refine (unhide CB).mono ?_
    rintro e w3 ⟨rfl, B3⟩
    have BD := hide (bel_into (unhide BC) B3)
    clear B3 CB
    go_wp2_with fail
    refine (unhide AN _).mono ?_
    rintro e w5 ⟨rfl, B5⟩
    have BE := hide (bel_into (unhide BD) B5)
    clear B5
    have F2 := hide (fits14 (c' := cap2) ((unhide P0).below (unhide BE)) ((unhide S0).below (unhide BE)) (unhide HI).1.symm (unhide HCP) (by have := (unhide HI).2.2.2; omega) (unhide HI).2.2.1.symm (by have := (unhide HI).2.2.2; omega) (unhide BE).size)
    rw [unhide FV] at F2
    go_wp2_with fail
    refine (unhide F2).mono ?_
    rintro e w7 ⟨rfl, B7⟩
    have BG := hide (bel_into (unhide BE) B7)
    clear B7 F2
    have d1 : fv = false ∨ (fv = true ∧ a1 < 0) ∨ (fv = true ∧ 0 ≤ a1 ∧ 11 < a1) := by
      cases fv
      · exact .inl rfl
      · have := hbad.resolve_left (by simp)
        by_cases h : a1 < 0
        · exact .inr (.inl ⟨rfl, h⟩)
        · exact .inr (.inr ⟨rfl, by omega, by omega⟩)
    clear hbad
    rcases d1 with rfl | ⟨rfl, g1⟩ | ⟨rfl, g1, g2⟩
    · go_wp2
      go_ret
      exact ⟨rfl, unhide BG⟩
    · go_wp2
      go_ret
      exact ⟨rfl, unhide BG⟩
    · go_wp2
      go_ret
      exact ⟨rfl, unhide BG⟩
  have hfv : fv = true := by
    cases fv
    · exact absurd (.inl rfl) hbad
    · rfl
  subst hfv
  obtain ⟨b, rfl⟩ := Int.eq_ofNat_of_zero_le (show 0 ≤ a1 by
    by_cases h : a1 < 0
    · exact absurd (.inr (.inl h)) hbad
    · omega)
  have hb11 : b ≤ 11 := by
    by_cases h : 11 < (b : Int)
    · exact absurd (.inr (.inr h)) hbad
    · omega
  have HB := hide hb11
  have t1 : decide ((b : Int) < 0) = false := decide_eq_false (by omega)
  have t2 : decide ((11 : Int) < (b : Int)) = false := decide_eq_false (by omega)
  have t3 : ¬ (11 : Int) < (b : Int) := by omega
  clear hbad hb11
  have CV := hide (cover13 (c := c') (c' := cap2) b (unhide TK) (((unhide S0).below (unhide BC)).mono (unhide BC).size) (unhide HI).1.symm (unhide HCC) (by have := (unhide HI).2.2.2; omega) (unhide HI).2.2.1.symm (by have := (unhide HI).2.2.2; omega) (Nat.le_refl _) (unhide HB) (unhide FV))
  refine (unhide CV).mono ?_
  rintro e w3 ⟨⟨a3, c3, he, tk3⟩, B3⟩
  have BD := hide (bel_into (unhide BC) B3)
  have TK3 := hide tk3
  have HCV := hide (show allP b px.length (covP b px 0 ss) = some px from all_cov (unhide HB) (unhide FV))
  have HLE := hide (show (covP b px 0 ss).length ≤ 1000000 from Nat.le_trans (cov_len (unhide FV) (Nat.zero_le _)) (by have := (unhide HI).1; have := (unhide HI).2.2.2; omega))
  clear tk3 B3 CV
  generalize hts : covP b px 0 ss = ts at *
  have HTS := hide hts
  clear hts
  subst he
  generalize hK : ts.length = K at *
  have HK := hide hK
  clear hK
  go_wp2_with fail
  refine (unhide AN _).mono ?_
  rintro e w5 ⟨rfl, B5⟩
  have BE := hide (bel_into (unhide BD) B5)
  have TK5 := hide (((unhide TK3).below B5).mono B5.size)
  clear B5
  have F2 := hide (fits14 (c' := cap2) ((unhide P0).below (unhide BE)) ((unhide S0).below (unhide BE)) (unhide HI).1.symm (unhide HCP) (by have := (unhide HI).2.2.2; omega) (unhide HI).2.2.1.symm (by have := (unhide HI).2.2.2; omega) (unhide BE).size)
  rw [unhide FV] at F2
  go_wp2_with fail
  refine (unhide F2).mono ?_
  rintro e w7 ⟨rfl, B7⟩
  have BG := hide (bel_into (unhide BE) B7)
  have TK7 := hide (((unhide TK5).below B7).mono B7.size)
  clear B7 F2
  have RC := hide (rcover15 (c := cap0) (c' := cap2) b ((unhide P0).below (unhide BG)) ((unhide S0).below (unhide BG)) (unhide HI).1.symm (by have := (unhide HI).2.2.2; omega) (unhide HI).2.2.1.symm (by have := (unhide HI).2.2.2; omega) (unhide BG).size (unhide HB) (unhide FV) (unhide HSM))
  go_wp2_with fail
  refine (unhide RC).mono ?_
  rintro e w9 ⟨⟨a9, c9, he, tk9⟩, B9⟩
  rw [unhide HTS, unhide HK] at he
  rw [unhide HTS] at tk9
  subst he
  have BH := hide (bel_into (unhide BG) B9)
  have TK9 := hide tk9
  have TL9 := hide (((unhide TK7).below B9).mono B9.size)
  clear tk9 B9 RC
  have ne1 : ((K : Int) != (K : Int)) = false := by simp
  go_wp2
  go_loopw [11] (fun x wr => ∃ i : Nat, x = .int .i64 i ∧ i ≤ K ∧ Below w9.heap.size w9 wr) (fun x _ => K - (intOf x).toNat)
  case atStart => exact ⟨0, rfl, by omega, Below.refl _ _⟩
  case round =>
    obtain ⟨i, rfl, hi, b1⟩ := hrel
    have BJ := hide b1
    clear b1
    by_cases hlt : i < K
    · have hlt' : (i : Int) < (K : Int) := by omega
      have hkk : K ≤ 1000000 := by have h1 := unhide HLE; have h2 := unhide HK; omega
      obtain ⟨t, ht⟩ : ∃ t, ts[i]? = some t := ⟨_, List.getElem?_eq_getElem (by rw [unhide HK]; exact hlt)⟩
      obtain ⟨bx, ox, rfl, hbx, x0, x1, x2, x3, x4⟩ := ((unhide TL9).below (unhide BJ)) i t ht
      obtain ⟨by_, oy, rfl, hby, y0, y1, y2, y3, y4⟩ := ((unhide TK9).below (unhide BJ)) i t ht
      clear ht
      obtain ⟨tk, tn, td, ti, ta⟩ := t
      simp only at x0 x1 x2 x3 x4 y0 y1 y2 y3 y4
      have q0 : (tk == tk) = true := by simp
      have q1 : (tn == tn) = true := by simp
      have q2 : (td == td) = true := by simp
      have q3 : (ti == ti) = true := by simp
      have q4 : ((ta : Int) == (ta : Int)) = true := by simp
      go_wp2
      go_quiet (fail)
      go_wp2
      go_roundw
      case rel => exact ⟨i + 1, by go_num, by omega, bel_drN (unhide BJ) _⟩
      case measure => simp [intOf]; omega
    · have hlt' : ¬ (i : Int) < (K : Int) := by omega
      have BL := hide ((unhide BH).trans ((unhide BJ).mono (unhide BH).size))
      have X := hide (expand9 (c := c3) px.length b ((unhide TL9).below (unhide BJ)) (unhide HK).symm (by have := unhide HLE; omega) (by have := (unhide HI).1; have := (unhide HI).2.2.2; omega) (unhide HB) (unhide BJ).size)
      rw [unhide HCV, (unhide HI).1] at X
      go_wp2_with fail
      refine (unhide X).mono ?_
      rintro e w11 ⟨⟨xa, xc, he, _, XP⟩, B11⟩
      rw [(unhide HI).1] at he
      subst he
      have BM := hide (bel_into (unhide BL) B11)
      have XQ := hide XP
      clear XP B11 X
      have PE := hide (pixels11 (n := len0) xc cap0 (unhide XQ) (((unhide P0).below (unhide BM)).mono (unhide BM).size) (unhide HI).1.symm (by have := (unhide HI).1; have := (unhide HI).2.2.2; omega) (Nat.le_refl _))
      go_wp2_with fail
      refine (unhide PE).mono ?_
      rintro e w13 ⟨rfl, B13⟩
      have BN := hide (bel_into (unhide BM) B13)
      clear B13
      go_wp2
      go_ret
      exact ⟨rfl, unhide BN⟩

set_option maxRecDepth 100000 in
theorem lifted (os : Os) (started : os.Started) (H : Type) (enc : TypeId × Value → H) :
    ReturnsInHanded {} Try.checked os 4 .any (Rows.tokenCoversSpec.pre6 enc Try.prog Try.f4 Rows.tokenCoversRow.domain false) (Rows.tokenCoversSpec.post enc Try.prog Try.f4 false true false false) := by
  refine returnsInHanded_of_change (C := Try.checked) own started (by kernel_rfl) Try.func4
    (ChangeSpec.witness6 (enc := enc) (C := Try.checked) false ⟨#[], #[.slice none 0 0, .int .i64 0, .slice none 0 0], []⟩ 8 (by kernel_rfl) (by kernel_rfl) (by kernel_rfl) (by kernel_rfl)) ?_
  intro W base args ds gs before hval0 hW hcnd _
  have hval : ∀ (j : Nat) t v, Try.f4.params[j]? = some t → args[j]? = some v → Value.okWide Try.prog W .any base t v := hval0
  have hW' := hW
  obtain ⟨p, q, hA0, hV, rfl, hfz, hnd⟩ := hW
  have hA : DataW.TrodAll enc Try.prog W 0 (fun _ => true) true Try.f4.params.toList args.toList ds p := hA0
  rw [Try.params4] at hA hval
  obtain ⟨v0, vs0, d0, ds0, p0, q0, hargs, rfl, rfl, h0, r0⟩ := trodAll_cons hA
  obtain ⟨v1, vs1, d1, ds1, p1, q1, rfl, rfl, rfl, h1, r1⟩ := trodAll_cons r0
  obtain ⟨v2, vs2, d2, ds2, p2, q2, rfl, rfl, rfl, h2, r2⟩ := trodAll_cons r1
  obtain ⟨rfl, rfl, rfl⟩ := trodAll_nil r2
  obtain rfl : args = #[v0, v1, v2] := by cases args; simp_all
  obtain ⟨rfl, rfl⟩ := trodVars_none hV
  obtain ⟨a0, len0, cap0, rfl⟩ := okWide_slice Try.underlying24 (hval 0 24 v0 rfl rfl)
  have k0 := h0
  have lt0 : ∀ x ∈ p0, x.block < W.heap.size := by obtain ⟨m, hm⟩ := k0; exact DataW.trod_lt m _ _ _ hm
  obtain ⟨z0, w0⟩ : ∃ zs, IsRow .u32 W a0 len0 cap0 zs := by
    obtain ⟨fuel, hf⟩ := h0
    rcases open_ints Try.underlying24 Try.underlying35 (by kernel_rfl) hf with ⟨hcs, _⟩ | ⟨x, l, c, zs, hcs, _, hl, hm, hz, _, hcell, hwz⟩
    · simp [Value.cells] at hcs
      obtain ⟨rfl, rfl, rfl⟩ := hcs
      exact ⟨[], .inl ⟨rfl, rfl, rfl, rfl⟩⟩
    · simp [Value.cells] at hcs
      obtain ⟨rfl, rfl, rfl⟩ := hcs
      exact ⟨zs, .inr ⟨_, rfl, hl, hm, by simpa using hz, hcell, hwz⟩⟩
  obtain ⟨a1, rfl, rfl, rfl, w1⟩ := open_int Try.underlying3 (hval 1 3 v1 rfl rfl) h1
  obtain ⟨a2, len2, cap2, rfl⟩ := okWide_slice Try.underlying30 (hval 2 30 v2 rfl rfl)
  have k2 := h2
  have lt2 : ∀ x ∈ p2, x.block < W.heap.size := by obtain ⟨m, hm⟩ := k2; exact DataW.trod_lt m _ _ _ hm
  have w2 : IsSps W a2 len2 cap2 := by obtain ⟨fuel, hf⟩ := h2; exact sps_in (by simpa [Value.cells] using hf)
  clear hA0 hval0
  refine (walk a0 len0 cap0 z0 a1 a2 len2 cap2 W w0 w1 w2).mono fun e W' ⟨he, bel⟩ => ?_
  subst he
  exact ⟨_, rfl, _, _, _, [], _, [], hW', trodAll_mk1 (shut_bool Try.underlying4 _), (trodAll_cons_mk (Below.trod laidOut (by kernel_rfl) (of_decide_eq_true (by kernel_rfl)) k0 bel lt0) (trodAll_cons_mk (shut_int Try.underlying3 w1) (trodAll_cons_mk (Below.trod laidOut (by kernel_rfl) (of_decide_eq_true (by kernel_rfl)) k2 bel lt2) trodAll_mk0))), rfl, bel.frame _, fun h => by cases h⟩

theorem over : Rows.tokenCoversRow.holds Try.pinned (OpenSpec.ofChange Rows.tokenCoversSpec) :=
  OpenClaim.holds_of_wide 4 Try.f4 rfl rfl rfl rfl rfl rfl rfl ⟨rfl, rfl, rfl, rfl, rfl⟩ rfl rfl rfl rfl rfl (by kernel_rfl) Try.func4 (by kernel_rfl)
    (of_decide_eq_true (by kernel_rfl)) (by unfold Func.isWrapper; first | (rw [if_pos (by decide +kernel)]; kernel_rfl) | (rw [if_neg (by decide +kernel)]; exact ⟨rfl, rfl⟩))
    (fun os started H enc _ => lifted os started H enc)

/-- The statement. -/
theorem proved : Rows.TokenCoversSaid := over
#print axioms proved
end Go.Proofs.Ytpkiilnkiidoiaa.tokenCovers
