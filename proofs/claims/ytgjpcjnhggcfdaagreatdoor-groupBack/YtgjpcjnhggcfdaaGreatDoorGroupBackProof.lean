/-
  What is proved: GroupBack: steps that are told by a group are read again by it; what has no code is not told.
  Conditions: none (the card: the listed table is tied to the program's text).
-/
import Derived.Test.YtgjpcjnhggcfdaaGreatDoorCards
import Derived.Test.YtgjpcjnhggcfdaaGreatDoorTie
import Derived.Test.YtgjpcjnhggcfdaaGreatDoorC29
import Derived.WalkKit
import Derived.ProofKit
import Derived.OpenShut
import Derived.ShutString
import Derived.ChangeOld
import Derived.Below
import Derived.Deep.DeepHandedRow
import Derived.Lib.LaidTab
import Derived.Stop.LaidErr
namespace Go.Proofs.YtgjpcjnhggcfdaaGreatDoor.groupBack
open Go.ChangeShapes Go.WideShapes Go.ChangeAt Go.RowKit
open Go.Proofs.YtgjpcjnhggcfdaaGreatDoor.Core Go.Proofs.YtgjpcjnhggcfdaaGreatDoor.HNum Go.Proofs.YtgjpcjnhggcfdaaGreatDoor.HSiz Go.Proofs.YtgjpcjnhggcfdaaGreatDoor.HFit Go.Proofs.YtgjpcjnhggcfdaaGreatDoor.HFiv Go.Proofs.YtgjpcjnhggcfdaaGreatDoor.HInp Go.Proofs.YtgjpcjnhggcfdaaGreatDoor.HCnt Go.Proofs.YtgjpcjnhggcfdaaGreatDoor.HAns Go.Proofs.YtgjpcjnhggcfdaaGreatDoor.NNum Go.Proofs.YtgjpcjnhggcfdaaGreatDoor.NPts Go.Proofs.YtgjpcjnhggcfdaaGreatDoor.Rse Go.Proofs.YtgjpcjnhggcfdaaGreatDoor.HGbk
open Go.ChangeMaps (open_string shut_string)
set_option linter.unusedVariables false

/-- The second table. -/
def ordI : List Int := [17, 18, 0, 1, 2, 3, 4, 5, 16, 6, 7, 8, 9, 10, 11, 12, 13, 14, 15]
theorem ordI_at : ∀ j, j < 19 → ordI.getD j 0 = ((Lsp.ord j : Nat) : Int) := by decide
theorem own : ownKnob Tryz.prog.godebug = none := by kernel_rfl
theorem laidOut : laidOutB Tryz.prog = true := by kernel_rfl
/-- The table's name, as the row lists it. -/
def tabName : String := Rows.groupBackRow.named.headD ""
theorem gTab : Tryz.prog.globalNamed tabName = some 0 := by kernel_rfl
theorem gTabType : (Tryz.prog.globals[0]?).map (·.type) = some 150 := by kernel_rfl
/-- The second table's name. -/
def tab2Name : String := (Rows.groupBackRow.named.drop 1).headD ""
theorem gTab2 : Tryz.prog.globalNamed tab2Name = some 1 := by kernel_rfl
theorem gTab2Type : (Tryz.prog.globals[1]?).map (·.type) = some 151 := by kernel_rfl
theorem cellsT2 : Tryz.prog.cellsOf 151 = 19 := by kernel_rfl
theorem cellsE2 : Tryz.prog.cellsOf 3 = 1 := by kernel_rfl
theorem cellsT : Tryz.prog.cellsOf 150 = 240 := by kernel_rfl
theorem cellsE : Tryz.prog.cellsOf 105 = 1 := by kernel_rfl
set_option maxRecDepth 100000 in
theorem table {W : World} (h : laidMetH Tryz.prog Rows.groupBackRow.laid W) : Lib.TabIs Tryz.prog W tabName .i8 tabL :=
  Lib.tabIs_of_head (rest := [(tab2Name, Lib.tabData .i64 ordI)]) gTab gTabType Tryz.underlying150 Tryz.underlying105 cellsE cellsT h
set_option maxRecDepth 100000 in
theorem table2 {W : World} (h : laidMetH Tryz.prog Rows.groupBackRow.laid W) : Lib.TabIs Tryz.prog W tab2Name .i64 ordI :=
  Lib.tabIs_of_head (rest := []) gTab2 gTab2Type Tryz.underlying151 Tryz.underlying3 cellsE2 cellsT2 (laidMet.tail (x := (tabName, Lib.tabData .i8 tabL)) h)

/-- A slice of integers that came in: nil, or a row of cells, each fitting its kind. -/
def IsRow (k : IntKind) (w : World) (a : Option Addr) (len cap : Nat) (zs : List Int) : Prop :=
  (a = none ∧ len = 0 ∧ cap = 0 ∧ zs = []) ∨
  ∃ x, a = some x ∧ len ≤ cap ∧ cap ≤ maxLen ∧ zs.length = cap ∧ (∀ i, i < zs.length → w.cell? (x.add i) = some (.int k (zs.getD i 0))) ∧ ∀ n ∈ zs, (Lit.int k n).wf = true
set_option maxRecDepth 20000 in
set_option maxHeartbeats 4000000 in
theorem walk (a0 : Option Addr) (len0 cap0 : Nat) (a1 : Int) (a2 : Int) (s3 : Nat → Nat) (w : World) (w0 : IsTks w a0 len0 cap0) (w1 : (Lit.int .i64 a1).wf = true) (w2 : (Lit.int .i64 a2).wf = true) (w3 : ∀ i, s3 i < 65536) (tab : ∀ j, j < 240 → w.cell? ⟨0, j, none⟩ = some (.int .i8 ((tabL : List Int).getD j 0))) (tab2 : ∀ j, j < 19 → w.cell? ⟨1, j, none⟩ = some (.int .i64 ((ordI : List Int).getD j 0))) :
    Calls Tryz.prog 3 #[.slice a0 len0 cap0, .int .i64 a1, .int .i64 a2, .agg (a16 s3)] w fun e w' => e = .returned (.bool true) ∧ Below w.heap.size w w' := by
  obtain ⟨ts, hts, tks, hu⟩ := tks_of w0
  have AN := hide (fun w => answers4 w)
  have dne : ∀ (p : Prop) [Decidable p], ¬ p → decide p = false := fun p _ h => decide_eq_false h
  clear w1 w2
  by_cases g0 : 100 < len0
  · have g0' : decide ((100 : Int) < (len0 : Int)) = true := decide_eq_true (by omega)
    clear tab tab2 tks w0
    simp only [a16]
    go_enter Tryz.func3, Tryz.ntmps3
    go_wp2_with fail
    refine (unhide AN _).mono ?_
    rintro e w4 ⟨rfl, b4⟩
    have B4 := hide (bel_into (bel_a1 w _) b4)
    clear b4 AN
    go_wp2
    go_ret
    exact ⟨rfl, unhide B4⟩
  · have g0' : decide ((100 : Int) < (len0 : Int)) = false := decide_eq_false (by omega)
    by_cases g1 : a1 < 0
    · clear tab tab2 tks w0
      simp only [a16]
      go_enter Tryz.func3, Tryz.ntmps3
      go_wp2_with fail
      refine (unhide AN _).mono ?_
      rintro e w4 ⟨rfl, b4⟩
      have B4 := hide (bel_into (bel_a1 w _) b4)
      clear b4 AN
      go_wp2
      go_ret
      exact ⟨rfl, unhide B4⟩
    · by_cases g2 : 11 < a1
      · clear tab tab2 tks w0
        simp only [a16]
        go_enter Tryz.func3, Tryz.ntmps3
        go_wp2_with fail
        refine (unhide AN _).mono ?_
        rintro e w4 ⟨rfl, b4⟩
        have B4 := hide (bel_into (bel_a1 w _) b4)
        clear b4 AN
        go_wp2
        go_ret
        exact ⟨rfl, unhide B4⟩
      · by_cases g3 : a2 < 1
        · clear tab tab2 tks w0
          simp only [a16]
          go_enter Tryz.func3, Tryz.ntmps3
          go_wp2_with fail
          refine (unhide AN _).mono ?_
          rintro e w4 ⟨rfl, b4⟩
          have B4 := hide (bel_into (bel_a1 w _) b4)
          clear b4 AN
          go_wp2
          go_ret
          exact ⟨rfl, unhide B4⟩
        · by_cases g4 : 16384 < a2
          · clear tab tab2 tks w0
            simp only [a16]
            go_enter Tryz.func3, Tryz.ntmps3
            go_wp2_with fail
            refine (unhide AN _).mono ?_
            rintro e w4 ⟨rfl, b4⟩
            have B4 := hide (bel_into (bel_a1 w _) b4)
            clear b4 AN
            go_wp2
            go_ret
            exact ⟨rfl, unhide B4⟩
          · obtain ⟨c, rfl⟩ : ∃ c : Nat, a1 = (c : Int) := ⟨a1.toNat, by omega⟩
            exact HGbk.back_in (by omega) a2 (by omega) (by omega) tks hts.symm (by omega) hu s3 (fun i => by have := w3 i; omega) (fun j hj => tab j hj) (fun j hj => by rw [tab2 j hj, ordI_at j hj])

set_option maxRecDepth 100000 in
theorem contract (H : Type) (enc : TypeId × Value → H) (W : World) (base : Nat) (args : Array Value) (ds gs : List (DataW H)) (before : List MemPlace)
    (hval : ∀ (j : Nat) t v, Tryz.f3.params[j]? = some t → args[j]? = some v → Value.okWide Tryz.prog W .any base t v)
    (hW : DataW.Whole enc Tryz.prog Tryz.f3.params.toList Rows.groupBackSpec.vars false W args.toList ds gs before) (hL : laidMetH Tryz.prog Rows.groupBackRow.laid W) :
    Calls Tryz.prog 3 args W fun e W' => ∃ v, e = .returned v ∧ Rows.groupBackSpec.post enc Tryz.prog Tryz.f3 false true false false W args v W' := by
  have hW' := hW
  obtain ⟨p, q, hA0, hV, rfl, hfz, hnd⟩ := hW
  have hA : DataW.TrodAll enc Tryz.prog W 0 (fun _ => true) true Tryz.f3.params.toList args.toList ds p := hA0
  rw [Tryz.params3] at hA hval
  obtain ⟨v0, vs0, d0, ds0, p0, q0, hargs, rfl, rfl, h0, r0⟩ := trodAll_cons hA
  obtain ⟨v1, vs1, d1, ds1, p1, q1, rfl, rfl, rfl, h1, r1⟩ := trodAll_cons r0
  obtain ⟨v2, vs2, d2, ds2, p2, q2, rfl, rfl, rfl, h2, r2⟩ := trodAll_cons r1
  obtain ⟨v3, vs3, d3, ds3, p3, q3, rfl, rfl, rfl, h3, r3⟩ := trodAll_cons r2
  obtain ⟨rfl, rfl, rfl⟩ := trodAll_nil r3
  obtain rfl : args = #[v0, v1, v2, v3] := by cases args; simp_all
  obtain ⟨rfl, rfl⟩ := trodVars_none hV
  obtain ⟨a0, len0, cap0, rfl⟩ := okWide_slice Tryz.underlying22 (hval 0 22 v0 rfl rfl)
  have k0 := h0
  have lt0 : ∀ x ∈ p0, x.block < W.heap.size := by obtain ⟨m, hm⟩ := k0; exact DataW.trod_lt m _ _ _ hm
  have w0 : IsTks W a0 len0 cap0 := by obtain ⟨fuel, hf⟩ := h0; exact tks_in (by simpa [Value.cells] using hf)
  obtain ⟨a1, rfl, rfl, rfl, w1⟩ := open_int Tryz.underlying3 (hval 1 3 v1 rfl rfl) h1
  obtain ⟨a2, rfl, rfl, rfl, w2⟩ := open_int Tryz.underlying3 (hval 2 3 v2 rfl rfl) h2
  have k3 := h3
  have lt3 : ∀ x ∈ p3, x.block < W.heap.size := by obtain ⟨m, hm⟩ := k3; exact DataW.trod_lt m _ _ _ hm
  obtain ⟨s3, rfl, w3⟩ : ∃ s : Nat → Nat, v3 = .agg (a16 s) ∧ ∀ i, s i < 65536 := by
    have hv := hval 3 24 v3 rfl rfl
    simp only [Value.okWide, Tryz.underlying24] at hv
    obtain ⟨cs, hc, _⟩ := hv
    obtain ⟨fuel, hf⟩ := h3
    exact a16_in ⟨cs, hc⟩ hf
  clear hA0
  refine (walk a0 len0 cap0 a1 a2 s3 W w0 w1 w2 w3 (fun j hj => (table hL).cell gTab j hj) (fun j hj => (table2 hL).cell gTab2 j hj)).mono fun e W' ⟨he, bel⟩ => ?_
  subst he
  exact ⟨_, rfl, _, _, _, [], _, [], hW', trodAll_mk1 (shut_bool Tryz.underlying4 _), (trodAll_cons_mk (Below.trod laidOut (by kernel_rfl) (of_decide_eq_true (by kernel_rfl)) k0 bel lt0) (trodAll_cons_mk (shut_int Tryz.underlying3 w1) (trodAll_cons_mk (shut_int Tryz.underlying3 w2) (trodAll_cons_mk (Below.trod laidOut (by kernel_rfl) (of_decide_eq_true (by kernel_rfl)) k3 bel lt3) trodAll_mk0)))), rfl, bel.frame _, fun h => by cases h⟩

theorem laid_met (os : Os) : laidMet Tryz.prog Rows.groupBackRow.laid (({ World.holding Tryz.prog os ⟨#[], #[], []⟩ with heap := ((World.holding Tryz.prog os ⟨#[], #[], []⟩).heap.modify 0 fun | .cells _ t frozen => .cells (tabL.map (Value.int .i8)).toArray t frozen | o => o).modify 1 fun | .cells _ t frozen => .cells (ordI.map (Value.int .i64)).toArray t frozen | o => o } : World).forCall (fun _ _ => 0) ⟨#[], #[.slice none 0 0, .int .i64 0, .int .i64 0, .agg #[.int .u16 0, .int .u16 0, .int .u16 0, .int .u16 0, .int .u16 0]], []⟩).memory :=
  laidMet_of_run' 8 (by kernel_rfl) (by kernel_rfl)
theorem reads (os : Os) {H : Type} (enc : TypeId × Value → H) : ∃ places, DataW.whole enc Tryz.prog (({ World.holding Tryz.prog os ⟨#[], #[], []⟩ with heap := ((World.holding Tryz.prog os ⟨#[], #[], []⟩).heap.modify 0 fun | .cells _ t frozen => .cells (tabL.map (Value.int .i8)).toArray t frozen | o => o).modify 1 fun | .cells _ t frozen => .cells (ordI.map (Value.int .i64)).toArray t frozen | o => o } : World).forCall (fun _ _ => 0) ⟨#[], #[.slice none 0 0, .int .i64 0, .int .i64 0, .agg #[.int .u16 0, .int .u16 0, .int .u16 0, .int .u16 0, .int .u16 0]], []⟩).memory Tryz.f3.params.toList Rows.groupBackSpec.vars false (#[.slice none 0 0, .int .i64 0, .int .i64 0, .agg #[.int .u16 0, .int .u16 0, .int .u16 0, .int .u16 0, .int .u16 0]] : Array Value).toList 8 = some ([.nil, .lit (.int .i64 0), .lit (.int .i64 0), .agg [.lit (.int .u16 0), .lit (.int .u16 0), .lit (.int .u16 0), .lit (.int .u16 0), .lit (.int .u16 0)]], [], places) :=
  ⟨[], by kernel_rfl⟩
set_option maxRecDepth 100000 in
theorem lifted (os : Os) (started : os.Started) (H : Type) (enc : TypeId × Value → H) (F : Stop.Interp) :
    ReturnsInHanded {} Tryz.checked os 3 .any ((OpenSpec.ofChange Rows.groupBackSpec).preRow enc Tryz.prog Tryz.f3 Rows.groupBackRow.domain false Rows.groupBackRow.laid) (((OpenSpec.ofChange Rows.groupBackSpec).at F).post enc Tryz.prog Tryz.f3 false true false false) := by
  obtain ⟨places, hx⟩ := reads os enc
  refine returnsInHanded_of_row (C := Tryz.checked) (s := OpenSpec.ofChange Rows.groupBackSpec) own started (by kernel_rfl) Tryz.func3
    (witness_row_at (enc := enc) (C := Tryz.checked) false ({ World.holding Tryz.prog os ⟨#[], #[], []⟩ with heap := ((World.holding Tryz.prog os ⟨#[], #[], []⟩).heap.modify 0 fun | .cells _ t frozen => .cells (tabL.map (Value.int .i8)).toArray t frozen | o => o).modify 1 fun | .cells _ t frozen => .cells (ordI.map (Value.int .i64)).toArray t frozen | o => o } : World) #[.slice none 0 0, .int .i64 0, .int .i64 0, .agg #[.int .u16 0, .int .u16 0, .int .u16 0, .int .u16 0, .int .u16 0]] rfl (by kernel_rfl) (by kernel_rfl) (by kernel_rfl)
      (OpenSpec.preRow_of_cond 8 hx (by kernel_rfl) (fun k hk => by cases hk) (by kernel_rfl) (laid_met os))) ?_
  intro W base args ds gs before hval hW _ _ _ hL _ _
  exact contract H enc W base args ds gs before hval hW hL
theorem said : Rows.GroupBackSaid :=
  OpenClaim.holds_of_cond 3 Tryz.f3 rfl rfl rfl rfl rfl rfl rfl ⟨rfl, rfl, rfl, rfl, rfl⟩ rfl rfl rfl rfl rfl (by kernel_rfl) Tryz.func3 (by kernel_rfl)
    (of_decide_eq_true (by kernel_rfl)) (by unfold Func.isWrapper; first | (rw [if_pos (by decide +kernel)]; kernel_rfl) | (rw [if_neg (by decide +kernel)]; exact ⟨rfl, rfl⟩))
    (fun os started H enc _ F => by rw [OpenClaim.pre_eq_preRow]; exact lifted os started H enc F)
theorem plain (f : FuncId) (fn : Func) (hf : Tryz.pinned.checked.prog.funcNamed Rows.groupBackRow.func = some f) (hfn : Tryz.pinned.checked.prog.funcs[f]? = some fn) :
    false = Tryz.pinned.checked.prog.looks [] ∧ ∀ (j : Nat) t, fn.params[j]? = some t → Tryz.pinned.checked.prog.wantsStandIn t = false := by
  obtain rfl : f = 3 := Option.some.inj ((show Tryz.prog.funcNamed Rows.groupBackRow.func = some 3 by kernel_rfl).symm.trans hf) |>.symm
  obtain rfl : fn = Tryz.f3 := (Option.some.inj (Tryz.func3.symm.trans hfn)).symm
  refine ⟨by kernel_rfl, fun j t ht => ?_⟩
  rw [Tryz.params3] at ht
  have hm : t ∈ [22, 3, 3, 24] := by simpa using Array.mem_of_getElem? ht
  have hall : ([22, 3, 3, 24].all fun u => !Tryz.prog.wantsStandIn u) = true := by kernel_rfl
  exact (show Tryz.prog.wantsStandIn t = false by simpa using List.all_eq_true.1 hall t hm)
/-- The statement. -/
theorem proved : Rows.GroupBackCardSaid :=
  Claim7.holds_tied_plain_at .later [] _ _ _ _ said (fun _ h => by cases h) (by kernel_rfl) (fun _ h => by cases h) groupBack_row_tie rfl ⟨rfl, rfl⟩ (by kernel_rfl) rfl plain (by kernel_rfl)
#print axioms proved
end Go.Proofs.YtgjpcjnhggcfdaaGreatDoor.groupBack
