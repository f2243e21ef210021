/-
  What is proved: for every slice of colours and number of pixels the Go function TokenRuns of the statements of layer 17 returns true, and its arguments read as before.
  Conditions: none.
-/
import Derived.Test.YtpkiilnkiidoiaaRows
import Derived.Test.YtpkiilnkiidoiaaKAns
import Derived.Test.YtpkiilnkiidoiaaKFin
import Derived.Test.YtpkiilnkiidoiaaKFit
import Derived.WalkKit
import Derived.ProofKit
import Derived.OpenShut
import Derived.ShutString
import Derived.ChangeOld
import Derived.Below
import Derived.Deep.Grids
import Derived.Lib.SmallJoins
namespace Go.Proofs.Ytpkiilnkiidoiaa.tokenRuns
open Go.ChangeShapes Go.WideShapes Go.ChangeAt Go.RowKit
open Go.Proofs.Ytpkiilnkiidoiaa.Core Go.Proofs.Ytpkiilnkiidoiaa.CNum Go.Proofs.Ytpkiilnkiidoiaa.KNum Go.Proofs.Ytpkiilnkiidoiaa.KMem Go.Proofs.Ytpkiilnkiidoiaa.KInp Go.Proofs.Ytpkiilnkiidoiaa.KFit Go.Proofs.Ytpkiilnkiidoiaa.KExp Go.Proofs.Ytpkiilnkiidoiaa.KAns Go.Proofs.Ytpkiilnkiidoiaa.KFin
open Go.ChangeMaps (open_string shut_string)
set_option linter.unusedVariables false

theorem own : ownKnob Try.prog.godebug = none := by kernel_rfl
theorem laidOut : laidOutB Try.prog = true := by kernel_rfl

/-- A slice of integers that came in: nil, or a row of cells, each fitting its kind. -/
def IsRow (k : IntKind) (w : World) (a : Option Addr) (len cap : Nat) (zs : List Int) : Prop :=
  (a = none ∧ len = 0 ∧ cap = 0 ∧ zs = []) ∨
  ∃ x, a = some x ∧ len ≤ cap ∧ cap ≤ maxLen ∧ zs.length = cap ∧ (∀ i, i < zs.length → w.cell? (x.add i) = some (.int k (zs.getD i 0))) ∧ ∀ n ∈ zs, (Lit.int k n).wf = true
/-- A slice of bools that came in. -/
def IsBools (w : World) (a : Option Addr) (len cap : Nat) (B : Nat → Bool) : Prop :=
  (a = none ∧ len = 0 ∧ cap = 0) ∨ ∃ x, a = some x ∧ len ≤ cap ∧ cap ≤ maxLen ∧ ∀ i, i < cap → w.cell? (x.add i) = some (.bool (B i))
theorem ne_false {x y : Nat} (h : x = y) : ((x : Int) != (y : Int)) = false := by subst h; simp
theorem lits_snoc (px : List Nat) (a : Nat) : lits (px ++ [a]) = lits px ++ [⟨1, 0, 0, 0, a⟩] := by simp [KFin.lits]
theorem lits_len (px : List Nat) : (lits px).length = px.length := by simp [KFin.lits]
/-- The steps gathered so far. -/
structure Gat (w : World) (px : List Nat) (i : Nat) (v : Value) (wr : World) : Prop where
  own : wr.ownsRow w.heap.size 37 5 v i (tcs (lits (px.take i)))
  bel : Below w.heap.size w wr
theorem Gat.next {w wr w1 : World} {px : List Nat} {i : Nat} {v v1 : Value} {o : Obj} (h : Gat w px i v wr) (hi : i < px.length) (own : w1.ownsRow w.heap.size 37 5 v1 (i + 1) (tcs (lits (px.take i)) ++ tc ⟨1, 0, 0, 0, px.getD i 0⟩)) (gr : (wr.alloc o).grownBy w1 v.ownBlock) : Gat w px (i + 1) v1 w1 :=
  ⟨by rw [← take_snoc hi, lits_snoc, tcs_snoc]; exact own, (h.bel.alloc h.bel.size o).grown gr (by have := h.bel.size; simp; omega) (fun k e => (h.own.lt k e).1)⟩
set_option maxRecDepth 20000 in
set_option maxHeartbeats 1000000 in
theorem walk (a0 : Option Addr) (len0 cap0 : Nat) (z0 : List Int) (a1 : Int) (w : World) (w0 : IsRow .u32 w a0 len0 cap0 z0) (w1 : (Lit.int .u16 a1).wf = true) :
    Calls Try.prog 7 #[.slice a0 len0 cap0, .int .u16 a1] w fun e w' => e = .returned (.bool true) ∧ Below w.heap.size w w' := by
  have AN := hide answers8
  obtain ⟨px, hl, hc, PX, HS⟩ := lst_in w0
  have hn : 0 ≤ a1 ∧ a1 ≤ 65535 := by
    have := w1
    simp [Lit.wf, IntKind.min, IntKind.max, IntKind.signed, IntKind.bits] at this
    omega
  obtain ⟨nn, rfl⟩ := Int.eq_ofNat_of_zero_le hn.1
  clear w0 w1
  by_cases h0 : len0 = 0 ∨ 50 < len0
  · have g : len0 = 0 ∨ (0 < len0 ∧ 50 < len0) := by omega
    rcases g with g1 | ⟨g1, g2⟩
    · subst g1
      go_enter Try.func7, Try.ntmps7
      go_wp2_with fail
      refine (unhide AN _).mono ?_
      rintro e w1 ⟨rfl, B1⟩
      have BB := hide B1
      clear B1
      go_wp2
      go_ret
      exact ⟨rfl, unhide BB⟩
    · have i1 : (50 : Int) < (len0 : Int) := by omega
      have i2 : ((len0 : Int) == 0) = false := by rw [beq_eq_false_iff_ne]; omega
      go_enter Try.func7, Try.ntmps7
      go_wp2_with fail
      refine (unhide AN _).mono ?_
      rintro e w1 ⟨rfl, B1⟩
      have BB := hide B1
      clear B1
      go_wp2
      go_ret
      exact ⟨rfl, unhide BB⟩
  have i1 : ¬ (50 : Int) < (len0 : Int) := by omega
  have i2 : ((len0 : Int) == 0) = false := by rw [beq_eq_false_iff_ne]; omega
  have i4 : (len0 : Int) ≤ 50 := by omega
  obtain ⟨q, hq⟩ : ∃ q, q = nn % 4096 := ⟨_, rfl⟩
  have r1 : (nn : Int).tmod 4096 = (q : Int) := by rw [hq, Int.tmod_eq_emod_of_nonneg (by omega)]; omega
  have r2 : (q : Int) < 4096 := by omega
  obtain ⟨K, hK⟩ : ∃ K, K = q + 1 := ⟨_, rfl⟩
  have r4 : (q : Int) + 1 = (K : Int) := by omega
  obtain ⟨M, hM⟩ : ∃ M, M = px.length + K := ⟨_, rfl⟩
  have r5 : (len0 : Int) + (K : Int) = (M : Int) := by omega
  obtain ⟨M1, hM1⟩ : ∃ M1, M1 = px.length + K - 1 := ⟨_, rfl⟩
  have r6 : (M : Int) - 1 = (M1 : Int) := by omega
  have r7 : (K : Int) ≤ 4096 := by omega
  have r8 : (M : Int) ≤ 5000 := by omega
  obtain ⟨b, off, rfl, hb, cells⟩ := PX.pos (by omega)
  have P0 := hide PX
  have HL := hide (And.intro hl (show 0 < len0 ∧ len0 ≤ 50 by omega))
  have CE := hide cells
  obtain ⟨i0, hi0, hz0, hz1, hz2⟩ := info_parts info37
  have HQ := hide (show 1 ≤ K ∧ K ≤ 4096 by omega)
  have HM := hide (And.intro hM hM1)
  have RY := hide (runs_yes (px := px) (k := K) (by omega) (by omega) (by omega))
  have RN := hide (runs_no (px := px) (k := K) (by omega))
  have CM := hide (cpy_mod (px := px) (by omega) K)
  rw [← hM, hl] at RY
  rw [← hM1, hl] at RN
  rw [← hM, hl] at CM
  have CL := hide (show (cpy px len0 K).length = M by rw [cpy_len]; omega)
  clear h0 PX cells hl hn HS hq hK hM hM1 i1
  have i1 : ¬ (50 : Int) < (len0 : Int) := by omega
  go_enter Try.func7, Try.ntmps7
  go_wp2
  go_loopw [6, 7] (fun x y wr => ∃ (i : Nat) (v : Value), x = v ∧ y = .int .i64 i ∧ i ≤ len0 ∧ Gat w px i v wr) (fun _ y _ => len0 - (intOf y).toNat)
  case atStart => exact ⟨0, _, rfl, rfl, by omega, World.ownsRow_nil _ _ _ _, Below.refl _ _⟩
  case round =>
    obtain ⟨i, v, hx, rfl, hi, G⟩ := hrel
    obtain ⟨av, cv, rfl, _⟩ := own_shape G.own
    subst hx
    have GG := hide G
    have GB := hide G.bel
    clear G
    by_cases hlt : i < len0
    · have hlt' : (i : Int) < (len0 : Int) := by omega
      have hipx : i < px.length := by rw [(unhide HL).1]; exact hlt
      have c0 := ((unhide GB).cell (p := ⟨b, off + i, none⟩) hb).trans (unhide CE i _ (some_getD hipx))
      have HPX := hide hipx
      have PI := hide (show (px.getD i 0 : Nat) = px.getD i 0 from rfl)
      generalize hX : px.getD i 0 = X at c0
      have HX := hide hX
      clear hX hipx PI
      go_wp2_with (first | (at_builtin; refine wpList_append_own_at _ rfl (.tmp 32) (.tmp 38) 22 rfl w.heap.size 37 i0 (.agg #[.int .i64 0, .int .i64 0, .int .i64 0, .int .i64 0, .int .u32 0]) 5 40 Try.underlying22 hi0 hz0 hz1 hz2 rfl (by decide) _ i (tcs (KFin.lits (px.take i))) rfl ((unhide GG).own.alloc _) ⟨wr.heap.size, 0, none⟩ 1 1 (tc ⟨1, 0, 0, 0, X⟩) rfl rfl (tc_new _ _ _) (tc_one _) (by unfold maxLen; omega) (by omega) (by have := (unhide GB).size; simp; omega) ?_; intro v1 w1 own1 gr1 _ _; obtain ⟨a1, k1, rfl, _⟩ := own_shape own1; have G1 := hide ((unhide GG).next (unhide HPX) (by rw [unhide HX]; exact own1) gr1); clear own1 gr1) | go_in)
      go_roundw
      case rel => exact ⟨i + 1, _, rfl, by go_num, by omega, unhide G1⟩
      case measure => simp [intOf]; omega
    · have hlt' : ¬ (i : Int) < (len0 : Int) := by omega
      have e : i = len0 := by omega
      subst e
      have GO := hide (show wr.ownsRow w.heap.size 37 5 (.slice av i cv) i (tcs (KFin.lits px)) by
        have := (unhide GG).own
        rwa [List.take_of_length_le (by have := (unhide HL).1; omega)] at this)
      clear GG hi hlt
      go_wp2_with (first | (at_builtin; refine wpList_append_own_at _ rfl (.tmp 40) (.tmp 45) 22 rfl w.heap.size 37 i0 (.agg #[.int .i64 0, .int .i64 0, .int .i64 0, .int .i64 0, .int .u32 0]) 5 40 Try.underlying22 hi0 hz0 hz1 hz2 rfl (by decide) _ i (tcs (KFin.lits px)) rfl ((unhide GO).alloc _) ⟨wr.heap.size, 0, none⟩ 1 1 (tc ⟨2, K, i, 0, 0⟩) rfl rfl (tc_new _ _ _) (tc_one _) (by unfold maxLen; omega) (by omega) (by have := (unhide GB).size; simp; omega) ?_; intro v1 w1 own1 gr1 _ _; rw [← tcs_snoc] at own1; obtain ⟨a2, k2, ev, _, tk⟩ := own_tks own1 (by rw [List.length_append, lits_len, (unhide HL).1]; rfl); rw [List.length_append, lits_len, (unhide HL).1] at ev; have ev' : v1 = .slice a2 (i + 1) k2 := ev; subst ev'; clear ev; have TK := hide tk; have BW := hide (((unhide GB).alloc (unhide GB).size _).grown gr1 (by have := (unhide GB).size; simp; omega) (fun k e => ((unhide GO).lt k e).1)); clear tk own1 gr1) | (go_at_call 9; fail))
      have X := hide (expand9 (c := k2) M 0 (unhide TK) (k := i + 1) (by rw [List.length_append, lits_len, (unhide HL).1]; rfl) (by have := (unhide HL).2; omega) (by have := (unhide HM).1; have := (unhide HL); have := (unhide HQ).2; omega) (by omega) (Nat.le_refl _))
      rw [unhide RY] at X
      refine (unhide X).mono ?_
      rintro e w3 ⟨⟨xa, xc, he, _, XP⟩, B3⟩
      rw [unhide CL] at he
      subst he
      have XP3 := hide XP
      have B4 := hide ((unhide BW).trans (B3.mono (unhide BW).size))
      have Z3 := hide B3.size
      have TK3 := hide ((unhide TK).below B3)
      clear XP B3 X
      have Z4 := hide (unhide B4).size
      have ne1 : ((M : Int) != (M : Int)) = false := by simp
      go_wp2
      generalize wr = wo at *
      go_loopw [10] (fun x wr => ∃ j : Nat, x = .int .i64 j ∧ j ≤ M ∧ Below w3.heap.size w3 wr) (fun x _ => M - (intOf x).toNat)
      case atStart => exact ⟨0, rfl, by omega, Below.refl _ _⟩
      case round =>
        obtain ⟨j, rfl, hj, b5⟩ := hrel
        have B5 := hide b5
        clear b5
        by_cases hlt : j < M
        · have hlt' : (j : Int) < (M : Int) := by omega
          obtain ⟨bx, ox, rfl, hbx, d0⟩ := (unhide XP3) j _ (some_getD (by rw [unhide CL]; exact hlt))
          have d1 := ((unhide B5).cell (p := ⟨bx, ox + j, none⟩) hbx).trans d0
          have e1 : (j : Int).tmod (i : Int) = ((j % i : Nat) : Int) := by rw [Int.tmod_eq_emod_of_nonneg (by omega)]; simp
          have hy : j % i < i := Nat.mod_lt _ (unhide HL).2.1
          have q0 := unhide CE (j % i) _ (some_getD (by rw [(unhide HL).1]; exact hy))
          have q1 := (((unhide B4).trans ((unhide B5).mono (unhide Z4))).cell (p := ⟨b, off + j % i, none⟩) hb).trans q0
          have hcm := unhide CM j hlt
          rw [hcm] at d1
          clear d0 q0 hcm
          generalize j % i = y at *
          generalize px.getD y 0 = z at *
          have hy' : (y : Int) < (i : Int) := by omega
          have hne : ((z : Int) != (z : Int)) = false := by simp
          go_wp2
          go_quiet (fail)
          go_wp2
          go_roundw
          case rel => exact ⟨j + 1, by go_num, by omega, bel_drN (unhide B5) _⟩
          case measure => simp [intOf]; omega
        · have hlt' : ¬ (j : Int) < (M : Int) := by omega
          have X2 := hide (expand9 (c := k2) M1 0 (((unhide TK3).mono (unhide Z3)).below (unhide B5)) (k := i + 1) (by rw [List.length_append, lits_len, (unhide HL).1]; rfl) (by have := (unhide HL).2; omega) (by have := (unhide HM).2; have := (unhide HL); have := (unhide HQ).2; omega) (by omega) (unhide B5).size)
          rw [unhide RN] at X2
          have B6 := hide ((unhide B4).trans ((unhide B5).mono (unhide Z4)))
          go_wp2_with fail
          refine (unhide X2).mono ?_
          rintro e w7 ⟨rfl, B7⟩
          have B8 := hide (bel_into (unhide B6) B7)
          clear B7 X2
          go_wp2_with fail
          refine (unhide AN _).mono ?_
          rintro e w9 ⟨rfl, B9⟩
          have BZ := hide (bel_into (unhide B8) B9)
          clear B9
          go_wp2
          go_ret
          exact ⟨rfl, unhide BZ⟩

set_option maxRecDepth 100000 in
theorem lifted (os : Os) (started : os.Started) (H : Type) (enc : TypeId × Value → H) :
    ReturnsInHanded {} Try.checked os 7 .any (Rows.tokenRunsSpec.pre6 enc Try.prog Try.f7 Rows.tokenRunsRow.domain false) (Rows.tokenRunsSpec.post enc Try.prog Try.f7 false true false false) := by
  refine returnsInHanded_of_change (C := Try.checked) own started (by kernel_rfl) Try.func7
    (ChangeSpec.witness6 (enc := enc) (C := Try.checked) false ⟨#[], #[.slice none 0 0, .int .u16 0], []⟩ 8 (by kernel_rfl) (by kernel_rfl) (by kernel_rfl) (by kernel_rfl)) ?_
  intro W base args ds gs before hval0 hW hcnd _
  have hval : ∀ (j : Nat) t v, Try.f7.params[j]? = some t → args[j]? = some v → Value.okWide Try.prog W .any base t v := hval0
  have hW' := hW
  obtain ⟨p, q, hA0, hV, rfl, hfz, hnd⟩ := hW
  have hA : DataW.TrodAll enc Try.prog W 0 (fun _ => true) true Try.f7.params.toList args.toList ds p := hA0
  rw [Try.params7] at hA hval
  obtain ⟨v0, vs0, d0, ds0, p0, q0, hargs, rfl, rfl, h0, r0⟩ := trodAll_cons hA
  obtain ⟨v1, vs1, d1, ds1, p1, q1, rfl, rfl, rfl, h1, r1⟩ := trodAll_cons r0
  obtain ⟨rfl, rfl, rfl⟩ := trodAll_nil r1
  obtain rfl : args = #[v0, v1] := by cases args; simp_all
  obtain ⟨rfl, rfl⟩ := trodVars_none hV
  obtain ⟨a0, len0, cap0, rfl⟩ := okWide_slice Try.underlying24 (hval 0 24 v0 rfl rfl)
  have k0 := h0
  have lt0 : ∀ x ∈ p0, x.block < W.heap.size := by obtain ⟨m, hm⟩ := k0; exact DataW.trod_lt m _ _ _ hm
  obtain ⟨z0, w0⟩ : ∃ zs, IsRow .u32 W a0 len0 cap0 zs := by
    obtain ⟨fuel, hf⟩ := h0
    rcases open_ints Try.underlying24 Try.underlying35 (by kernel_rfl) hf with ⟨hcs, _⟩ | ⟨x, l, c, zs, hcs, _, hl, hm, hz, _, hcell, hwz⟩
    · simp [Value.cells] at hcs
      obtain ⟨rfl, rfl, rfl⟩ := hcs
      exact ⟨[], .inl ⟨rfl, rfl, rfl, rfl⟩⟩
    · simp [Value.cells] at hcs
      obtain ⟨rfl, rfl, rfl⟩ := hcs
      exact ⟨zs, .inr ⟨_, rfl, hl, hm, by simpa using hz, hcell, hwz⟩⟩
  obtain ⟨a1, rfl, rfl, rfl, w1⟩ := open_int Try.underlying42 (hval 1 42 v1 rfl rfl) h1
  clear hA0 hval0
  refine (walk a0 len0 cap0 z0 a1 W w0 w1).mono fun e W' ⟨he, bel⟩ => ?_
  subst he
  exact ⟨_, rfl, _, _, _, [], _, [], hW', trodAll_mk1 (shut_bool Try.underlying4 _), (trodAll_cons_mk (Below.trod laidOut (by kernel_rfl) (of_decide_eq_true (by kernel_rfl)) k0 bel lt0) (trodAll_cons_mk (shut_int Try.underlying42 w1) trodAll_mk0)), rfl, bel.frame _, fun h => by cases h⟩

theorem over : Rows.tokenRunsRow.holds Try.pinned (OpenSpec.ofChange Rows.tokenRunsSpec) :=
  OpenClaim.holds_of_wide 7 Try.f7 rfl rfl rfl rfl rfl rfl rfl ⟨rfl, rfl, rfl, rfl, rfl⟩ rfl rfl rfl rfl rfl (by kernel_rfl) Try.func7 (by kernel_rfl)
    (of_decide_eq_true (by kernel_rfl)) (by unfold Func.isWrapper; first | (rw [if_pos (by decide +kernel)]; kernel_rfl) | (rw [if_neg (by decide +kernel)]; exact ⟨rfl, rfl⟩))
    (fun os started H enc _ => lifted os started H enc)

/-- The statement. -/
theorem proved : Rows.TokenRunsSaid := over
#print axioms proved
end Go.Proofs.Ytpkiilnkiidoiaa.tokenRuns
