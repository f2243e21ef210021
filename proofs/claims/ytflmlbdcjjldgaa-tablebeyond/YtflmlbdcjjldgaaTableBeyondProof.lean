/-
  What is proved: Numbers that are not in a table are nothing, and the arguments are as they were: the Go function TableBeyond of the statements of layer 16 returns true for all arguments.
  Conditions: none.
-/
import Derived.Test.YtflmlbdcjjldgaaRows
import Derived.Test.YtflmlbdcjjldgaaTUse
import Derived.Test.YtflmlbdcjjldgaaKTwo
import Derived.WalkKit
import Derived.ProofKit
import Derived.OpenShut
import Derived.ShutString
import Derived.ChangeOld
import Derived.Below
import Derived.Deep.Grids
import Derived.Lib.SmallJoins
namespace Go.Proofs.Ytflmlbdcjjldgaa.tableBeyond
open Go.ChangeShapes Go.WideShapes Go.ChangeAt Go.RowKit
open Go.Proofs.Ytflmlbdcjjldgaa.Core Go.Proofs.Ytflmlbdcjjldgaa.LBlk Go.Proofs.Ytflmlbdcjjldgaa.PNum Go.Proofs.Ytflmlbdcjjldgaa.PGoo Go.Proofs.Ytflmlbdcjjldgaa.Ims Go.Proofs.Ytflmlbdcjjldgaa.IApp Go.Proofs.Ytflmlbdcjjldgaa.TNum Go.Proofs.Ytflmlbdcjjldgaa.TPkn Go.Proofs.Ytflmlbdcjjldgaa.TSet Go.Proofs.Ytflmlbdcjjldgaa.TCol Go.Proofs.Ytflmlbdcjjldgaa.TPak Go.Proofs.Ytflmlbdcjjldgaa.TUnp Go.Proofs.Ytflmlbdcjjldgaa.TAns Go.Proofs.Ytflmlbdcjjldgaa.TFin Go.Proofs.Ytflmlbdcjjldgaa.TUse Go.Proofs.Ytflmlbdcjjldgaa.KTwo
open Go.ChangeMaps (open_string shut_string)
set_option linter.unusedVariables false

theorem own : ownKnob Try.prog.godebug = none := by kernel_rfl
theorem laidOut : laidOutB Try.prog = true := by kernel_rfl

/-- A slice of integers that came in: nil, or a row of cells, each fitting its kind. -/
def IsRow (k : IntKind) (w : World) (a : Option Addr) (len cap : Nat) (zs : List Int) : Prop :=
  (a = none ∧ len = 0 ∧ cap = 0 ∧ zs = []) ∨
  ∃ x, a = some x ∧ len ≤ cap ∧ cap ≤ maxLen ∧ zs.length = cap ∧ (∀ i, i < zs.length → w.cell? (x.add i) = some (.int k (zs.getD i 0))) ∧ ∀ n ∈ zs, (Lit.int k n).wf = true
/-- A slice of bools that came in. -/
def IsBools (w : World) (a : Option Addr) (len cap : Nat) (B : Nat → Bool) : Prop :=
  (a = none ∧ len = 0 ∧ cap = 0) ∨ ∃ x, a = some x ∧ len ≤ cap ∧ cap ≤ maxLen ∧ ∀ i, i < cap → w.cell? (x.add i) = some (.bool (B i))
open Go.Sort
theorem bv_17 {L : Nat} (h : 17 ≤ L) : bv L = 0 := by
  unfold bv bvI
  rw [if_neg (by omega), if_neg (by omega), if_neg (by omega)]
theorem uv_byte {f t : Nat → Nat} {L n : Nat} (h : 17 ≤ L) (fb : ∀ i, i < n → f i < 256) : ∀ i, i < n * 1 → uv t L (fun i => 256 * f i) n (bv L) n i = if f i < L then t (f i) else 0 := by
  intro i hi
  have hi' : i < n := by omega
  have e : pt (256 * f i) 2 = f i := by
    have := fb i hi'
    show 256 * f i / 256 % 256 = f i
    omega
  have hb := fb i hi'
  unfold uv
  rw [bv_17 h, Nat.div_eq_of_lt hi', Nat.mod_eq_of_lt hi', Nat.pow_zero, Nat.div_one, Nat.zero_mul, Nat.zero_add, Nat.mod_one, Nat.zero_mul, Nat.pow_zero, Nat.div_one, e, show sz 0 = 8 from rfl, Nat.mod_eq_of_lt (by omega)]
set_option maxRecDepth 20000 in
set_option maxHeartbeats 1000000 in
theorem walk (a0 : Option Addr) (len0 cap0 : Nat) (z0 : List Int) (a1 : Option Addr) (len1 cap1 : Nat) (z1 : List Int) (w : World) (w0 : IsRow .u8 w a0 len0 cap0 z0) (w1 : IsRow .u32 w a1 len1 cap1 z1) :
    Calls Try.prog 7 #[.slice a0 len0 cap0, .slice a1 len1 cap1] w fun e w' => e = .returned (.bool true) ∧ Below w.heap.size w w' := by
  by_cases z0 : len0 = 0
  · subst z0
    clear w0 w1
    go_enter Try.func7, Try.ntmps7
    go_wp2_with fail
    refine (ans8 _).mono ?_
    rintro e w9 ⟨rfl, b9⟩
    have B9 := hide b9
    clear b9
    go_wp2
    go_ret
    exact ⟨rfl, unhide B9⟩
  · have z0' : ((len0 : Int) == 0) = false := by simp; omega
    by_cases b0 : 300 < len0
    · have b0' : ¬ (len0 : Int) ≤ 300 := by omega
      clear w0 w1
      go_enter Try.func7, Try.ntmps7
      go_wp2_with fail
      refine (ans8 _).mono ?_
      rintro e w9 ⟨rfl, b9⟩
      have B9 := hide b9
      clear b9
      go_wp2
      go_ret
      exact ⟨rfl, unhide B9⟩
    · have b0' : (len0 : Int) ≤ 300 := by omega
      by_cases s1 : len1 < 17
      · have s1' : (len1 : Int) < 17 := by omega
        clear w0 w1
        go_enter Try.func7, Try.ntmps7
        go_wp2_with fail
        refine (ans8 _).mono ?_
        rintro e w9 ⟨rfl, b9⟩
        have B9 := hide b9
        clear b9
        go_wp2
        go_ret
        exact ⟨rfl, unhide B9⟩
      · have s1' : ¬ (len1 : Int) < 17 := by omega
        by_cases b1 : 256 < len1
        · have b1' : ¬ (len1 : Int) ≤ 256 := by omega
          clear w0 w1
          go_enter Try.func7, Try.ntmps7
          go_wp2_with fail
          refine (ans8 _).mono ?_
          rintro e w9 ⟨rfl, b9⟩
          have B9 := hide b9
          clear b9
          go_wp2
          go_ret
          exact ⟨rfl, unhide B9⟩
        · have b1' : (len1 : Int) ≤ 256 := by omega
          have hn0 : 0 < len0 := by omega
          have hsm : len0 ≤ 300 := by omega
          obtain ⟨b, off, f, rfl, P, fb⟩ := byt_of w0 hn0
          obtain ⟨tb, tq, t, rfl, T, htt⟩ := pix_of w1 (by omega)
          obtain ⟨n, hne⟩ : ∃ n, n = len0 := ⟨_, rfl⟩
          subst hne
          obtain ⟨L, hLe⟩ : ∃ L, L = len1 := ⟨_, rfl⟩
          subst hLe
          have P0 := hide P
          have FB := hide fb
          have T0 := hide T
          have L17 : 17 ≤ L := by omega
          have L256 : L ≤ 256 := by omega
          clear w0 w1 P fb T htt z0 b0 s1 b1
          go_enter Try.func7, Try.ntmps7
          go_wp2_with fail
          go_loopw [6] (fun i wr => ∃ (j : Nat) (v : Value), j ≤ n ∧ i = .int .i64 j ∧ Pga w n 1 (fun i => 256 * f i) j v wr) (fun i _ => n - (intOf i).toNat)
          case atStart => exact ⟨0, _, Nat.zero_le _, rfl, Pga.start w n 1 _⟩
          case round =>
            obtain ⟨j, v, hj, rfl, PA0⟩ := hrel
            have PG := hide PA0
            obtain ⟨⟨d0, d1, d2⟩, f0, f1, f2⟩ := box_cells PA0.box
            have hd2 := PA0.box.lt
            by_cases hlt : j < n
            · have hlt' : (j : Int) < (n : Int) := by omega
              obtain ⟨va, vc, rfl⟩ := own_slice PA0.own
              have px := (unhide P0).below PA0.bel j hlt
              have hpx := lt_of_cell px
              have hfj := unhide FB j hlt
              obtain ⟨u, hu⟩ : ∃ u, 256 * f j = u := ⟨_, rfl⟩
              have HU : Hid ((fun i => 256 * f i) j = u) := hide hu
              have KA : ((f j : Nat) : Int) * 256 = (u : Int) := by omega
              have hu2 : (u : Int) ≤ 65280 := by omega
              clear PA0 hu
              generalize f j = y at *
              have hw1 : IntKind.u32.wrap (y : Int) = (y : Int) := by simp [IntKind.wrap, IntKind.bits, IntKind.signed]; omega
              have hw2 : IntKind.u32.wrap (u : Int) = (u : Int) := by simp [IntKind.wrap, IntKind.bits, IntKind.signed]; omega
              go_upto_region 7 with fail
              go_region_law (refine step_app rfl (.tmp 40) (.tmp 47) rfl (w.heap.size + 1) (.slice va j vc) j (pcells (fun i => 256 * f i) j) (by simp [Act.eval]) ((unhide PG).own.alloc _).drew ⟨wr.heap.size, 0, none⟩ 1 1 [.int .u32 u] (by simp [Act.eval]) rfl (cell_one_new _ _ _) (one_one _ _) (by omega) (by have := (unhide PG).box.lt; simp; omega) ?_; intro v' w' own1 gr0; have gr1 := gr_drew gr0; have BX1 := (unhide PG).box1 gr1; have PA := hide ((unhide PG).app own1 gr1 (congrArg Int.ofNat (unhide HU).symm)); obtain ⟨⟨d01, d11, d21⟩, f01, f11, f21⟩ := box_cells BX1; have hd21 := BX1.lt; obtain ⟨ua, uc, rfl⟩ := own_slice own1; clear own1 gr0 gr1 BX1)
              all_goals
                go_wp2_with fail
                go_roundw
                case rel => exact ⟨j + 1, _, by omega, by go_num, unhide PA⟩
                case measure => simp [intOf]; omega
            · obtain rfl : j = n := by omega
              have hnl : ¬ (j : Int) < (j : Int) := by omega
              obtain ⟨gz, cz, rfl, pw, hg1, hg2⟩ := own_pow PA0.own hn0
              have BW := hide PA0.bel
              have N2 := hide PA0.box
              have K3 := hide (unpack19 (W := j) (H := 1) (x := j) (b := gz) (off := 0) (m := j) (n := L) cz cap1 (img_own (by omega) (by omega) (by omega) pw) (by omega) (by omega) (by omega) ((unhide T0).below PA0.bel) (by omega) L256 (by omega) (by omega) (by rw [bv_17 L17]; unfold bl; simp))
              have TT := hide ((unhide T0).below PA0.bel)
              have PP := hide ((unhide P0).below PA0.bel)
              have UB := hide (uv_byte (f := f) (t := t) (L := L) (n := j) L17 (unhide FB))
              clear PA0 PG pw hg1 hg2 P0 T0
              generalize hwl : wr = wl at *
              clear hwl
              go_wp2_with fail
              refine (unhide K3).mono ?_
              rintro e w4 ⟨g3, rfl, gv⟩
              rw [Nat.mul_one] at gv ⊢
              have A4 := bel_a1 w4 (.cells #[.int .i64 j, .int .i64 1, .slice (some ⟨g3, 0, none⟩) j j] 24)
              have V4 := hide (Box.made w4 24 #[.int .i64 j, .int .i64 1, .slice (some ⟨g3, 0, none⟩) j j])
              have R4 := hide ((gv.row.below A4).congr (fun i hi => unhide UB i (by omega)))
              have B4 := hide (bel_into (bel_into (unhide BW) gv.bel) A4)
              have T4 := hide (((unhide TT).below gv.bel).below A4)
              have P4 := hide (((unhide PP).below gv.bel).below A4)
              have hjj : ((j : Int) != (j : Int)) = false := by simp
              clear gv A4 d0 d1 d2 f0 f1 f2 hd2 TT PP BW N2 K3
              have e2 : (w4.alloc (.cells #[.int .i64 j, .int .i64 1, .slice (some ⟨g3, 0, none⟩) j j] 24)).cell? ⟨w4.heap.size, 2, none⟩ = some (.slice (some ⟨g3, 0, none⟩) j j) := ((unhide V4).cell 2).trans rfl
              go_wp2_with fail
              clear e2
              generalize w4.heap.size = gy at *
              generalize w4.alloc (.cells #[.int .i64 j, .int .i64 1, .slice (some ⟨g3, 0, none⟩) j j] 24) = w5 at *
              obtain ⟨n, hnn⟩ : ∃ n, n = j := ⟨_, rfl⟩
              subst hnn
              go_loopw [9] (fun i wr => ∃ q : Nat, q ≤ n ∧ i = .int .i64 q ∧ wr = w5) (fun i _ => n - (intOf i).toNat)
              case atStart => exact ⟨0, Nat.zero_le _, rfl, rfl⟩
              case round =>
                obtain ⟨q, hq, rfl, hwr⟩ := hrel
                subst hwr
                obtain ⟨⟨e0, e1, e2⟩, _⟩ := box_cells (unhide V4)
                by_cases hqn : q < n
                · have hqn' : (q : Int) < (n : Int) := by omega
                  have pb := (unhide P4) q hqn
                  have px0 := ((unhide R4) q hqn).1
                  have fq := unhide FB q hqn
                  by_cases hv : f q < L
                  · have hv' : ((f q : Nat) : Int) < (L : Int) := by omega
                    have pt1 := (unhide T4) (f q) hv
                    have px : wr.cell? ⟨g3, q, none⟩ = some (.int .u32 (t (f q))) := px0.trans (congrArg (fun x : Nat => some (Value.int .u32 (x : Int))) (if_pos hv))
                    clear px0
                    generalize t (f q) = tv at *
                    generalize f q = v at *
                    go_wp2
                    go_roundw
                    case rel => exact ⟨q + 1, by omega, by go_num, by first | rfl | trivial⟩
                    case measure => simp [intOf]; omega
                  · have hv' : ¬ ((f q : Nat) : Int) < (L : Int) := by omega
                    have px : wr.cell? ⟨g3, q, none⟩ = some (.int .u32 0) := px0.trans (congrArg (fun x : Nat => some (Value.int .u32 (x : Int))) (if_neg hv))
                    clear px0
                    generalize f q = v at *
                    go_wp2
                    go_roundw
                    case rel => exact ⟨q + 1, by omega, by go_num, by first | rfl | trivial⟩
                    case measure => simp [intOf]; omega
                · obtain rfl : q = n := by omega
                  have hnl2 : ¬ (q : Int) < (q : Int) := by omega
                  go_wp2_with fail
                  refine (ans8 _).mono ?_
                  rintro e w9 ⟨rfl, b9⟩
                  have B9 := hide (bel_into (unhide B4) b9)
                  clear b9
                  go_wp2
                  go_ret
                  exact ⟨rfl, unhide B9⟩

set_option maxRecDepth 100000 in
theorem lifted (os : Os) (started : os.Started) (H : Type) (enc : TypeId × Value → H) :
    ReturnsInHanded {} Try.checked os 7 .any (Rows.tableBeyondSpec.pre6 enc Try.prog Try.f7 Rows.tableBeyondRow.domain false) (Rows.tableBeyondSpec.post enc Try.prog Try.f7 false true false false) := by
  refine returnsInHanded_of_change (C := Try.checked) own started (by kernel_rfl) Try.func7
    (ChangeSpec.witness6 (enc := enc) (C := Try.checked) false ⟨#[], #[.slice none 0 0, .slice none 0 0], []⟩ 8 (by kernel_rfl) (by kernel_rfl) (by kernel_rfl) (by kernel_rfl)) ?_
  intro W base args ds gs before hval0 hW hcnd _
  have hval : ∀ (j : Nat) t v, Try.f7.params[j]? = some t → args[j]? = some v → Value.okWide Try.prog W .any base t v := hval0
  have hW' := hW
  obtain ⟨p, q, hA0, hV, rfl, hfz, hnd⟩ := hW
  have hA : DataW.TrodAll enc Try.prog W 0 (fun _ => true) true Try.f7.params.toList args.toList ds p := hA0
  rw [Try.params7] at hA hval
  obtain ⟨v0, vs0, d0, ds0, p0, q0, hargs, rfl, rfl, h0, r0⟩ := trodAll_cons hA
  obtain ⟨v1, vs1, d1, ds1, p1, q1, rfl, rfl, rfl, h1, r1⟩ := trodAll_cons r0
  obtain ⟨rfl, rfl, rfl⟩ := trodAll_nil r1
  obtain rfl : args = #[v0, v1] := by cases args; simp_all
  obtain ⟨rfl, rfl⟩ := trodVars_none hV
  obtain ⟨a0, len0, cap0, rfl⟩ := okWide_slice Try.underlying43 (hval 0 43 v0 rfl rfl)
  have k0 := h0
  have lt0 : ∀ x ∈ p0, x.block < W.heap.size := by obtain ⟨m, hm⟩ := k0; exact DataW.trod_lt m _ _ _ hm
  obtain ⟨z0, w0⟩ : ∃ zs, IsRow .u8 W a0 len0 cap0 zs := by
    obtain ⟨fuel, hf⟩ := h0
    rcases open_ints Try.underlying43 Try.underlying5 (by kernel_rfl) hf with ⟨hcs, _⟩ | ⟨x, l, c, zs, hcs, _, hl, hm, hz, _, hcell, hwz⟩
    · simp [Value.cells] at hcs
      obtain ⟨rfl, rfl, rfl⟩ := hcs
      exact ⟨[], .inl ⟨rfl, rfl, rfl, rfl⟩⟩
    · simp [Value.cells] at hcs
      obtain ⟨rfl, rfl, rfl⟩ := hcs
      exact ⟨zs, .inr ⟨_, rfl, hl, hm, by simpa using hz, hcell, hwz⟩⟩
  obtain ⟨a1, len1, cap1, rfl⟩ := okWide_slice Try.underlying22 (hval 1 22 v1 rfl rfl)
  have k1 := h1
  have lt1 : ∀ x ∈ p1, x.block < W.heap.size := by obtain ⟨m, hm⟩ := k1; exact DataW.trod_lt m _ _ _ hm
  obtain ⟨z1, w1⟩ : ∃ zs, IsRow .u32 W a1 len1 cap1 zs := by
    obtain ⟨fuel, hf⟩ := h1
    rcases open_ints Try.underlying22 Try.underlying31 (by kernel_rfl) hf with ⟨hcs, _⟩ | ⟨x, l, c, zs, hcs, _, hl, hm, hz, _, hcell, hwz⟩
    · simp [Value.cells] at hcs
      obtain ⟨rfl, rfl, rfl⟩ := hcs
      exact ⟨[], .inl ⟨rfl, rfl, rfl, rfl⟩⟩
    · simp [Value.cells] at hcs
      obtain ⟨rfl, rfl, rfl⟩ := hcs
      exact ⟨zs, .inr ⟨_, rfl, hl, hm, by simpa using hz, hcell, hwz⟩⟩
  clear hA0 hval0
  refine (walk a0 len0 cap0 z0 a1 len1 cap1 z1 W w0 w1).mono fun e W' ⟨he, bel⟩ => ?_
  subst he
  exact ⟨_, rfl, _, _, _, [], _, [], hW', trodAll_mk1 (shut_bool Try.underlying4 _), (trodAll_cons_mk (Below.trod laidOut (by kernel_rfl) (of_decide_eq_true (by kernel_rfl)) k0 bel lt0) (trodAll_cons_mk (Below.trod laidOut (by kernel_rfl) (of_decide_eq_true (by kernel_rfl)) k1 bel lt1) trodAll_mk0)), rfl, bel.frame _, fun h => by cases h⟩

theorem over : Rows.tableBeyondRow.holds Try.pinned (OpenSpec.ofChange Rows.tableBeyondSpec) :=
  OpenClaim.holds_of_wide 7 Try.f7 rfl rfl rfl rfl rfl rfl rfl ⟨rfl, rfl, rfl, rfl, rfl⟩ rfl rfl rfl rfl rfl (by kernel_rfl) Try.func7 (by kernel_rfl)
    (of_decide_eq_true (by kernel_rfl)) (by unfold Func.isWrapper; first | (rw [if_pos (by decide +kernel)]; kernel_rfl) | (rw [if_neg (by decide +kernel)]; exact ⟨rfl, rfl⟩))
    (fun os started H enc _ => lifted os started H enc)

/-- The statement. -/
theorem proved : Rows.TableBeyondSaid := over
#print axioms proved
end Go.Proofs.Ytflmlbdcjjldgaa.tableBeyond
