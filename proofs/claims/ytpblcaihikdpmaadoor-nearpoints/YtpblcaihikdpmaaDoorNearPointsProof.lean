/-
  What is proved: for any two near codes, Point tells different points just if the codes differ, and each point is within reach.
  Conditions: none (the card: the listed table is tied to the program's text).
-/
import Derived.Test.YtpblcaihikdpmaaDoorCards
import Derived.Test.YtpblcaihikdpmaaDoorTie
import Derived.Test.YtpblcaihikdpmaaDoorAns
import Derived.Test.YtpblcaihikdpmaaDoorRfd
import Derived.WalkKit
import Derived.ProofKit
import Derived.OpenShut
import Derived.ShutString
import Derived.ChangeOld
import Derived.Below
import Derived.Deep.DeepHandedRow
import Derived.Lib.LaidTab
namespace Go.Proofs.YtpblcaihikdpmaaDoor.nearPoints
open Go.ChangeShapes Go.WideShapes Go.ChangeAt Go.RowKit
open Go.Proofs.YtpblcaihikdpmaaDoor.Core Go.Proofs.YtpblcaihikdpmaaDoor.Num Go.Proofs.YtpblcaihikdpmaaDoor.Pts Go.Proofs.YtpblcaihikdpmaaDoor.Ref Go.Proofs.YtpblcaihikdpmaaDoor.Rfd Go.Proofs.YtpblcaihikdpmaaDoor.Itr Go.Proofs.YtpblcaihikdpmaaDoor.Cde Go.Proofs.YtpblcaihikdpmaaDoor.Ans
open Go.ChangeMaps (open_string shut_string)
set_option linter.unusedVariables false

theorem own : ownKnob Tryd.prog.godebug = none := by kernel_rfl
theorem laidOut : laidOutB Tryd.prog = true := by kernel_rfl
/-- The table's name, as the row lists it. -/
def tabName : String := Rows.nearPointsRow.named.headD ""
theorem gTab : Tryd.prog.globalNamed tabName = some 0 := by kernel_rfl
theorem gTabType : (Tryd.prog.globals[0]?).map (·.type) = some 43 := by kernel_rfl
theorem cellsT : Tryd.prog.cellsOf 43 = 240 := by kernel_rfl
theorem cellsE : Tryd.prog.cellsOf 42 = 1 := by kernel_rfl
set_option maxRecDepth 100000 in
theorem table {W : World} (h : laidMetH Tryd.prog Rows.nearPointsRow.laid W) : Lib.TabIs Tryd.prog W tabName .i8 tabL :=
  Lib.tabIs_of_head (rest := []) gTab gTabType Tryd.underlying43 Tryd.underlying42 cellsE cellsT h

/-- A slice of integers that came in: nil, or a row of cells, each fitting its kind. -/
def IsRow (k : IntKind) (w : World) (a : Option Addr) (len cap : Nat) (zs : List Int) : Prop :=
  (a = none ∧ len = 0 ∧ cap = 0 ∧ zs = []) ∨
  ∃ x, a = some x ∧ len ≤ cap ∧ cap ≤ maxLen ∧ zs.length = cap ∧ (∀ i, i < zs.length → w.cell? (x.add i) = some (.int k (zs.getD i 0))) ∧ ∀ n ∈ zs, (Lit.int k n).wf = true

set_option maxRecDepth 20000 in
set_option maxHeartbeats 4000000 in
theorem walk (a0 : Int) (a1 : Int) (w : World) (w0 : (Lit.int .u8 a0).wf = true) (w1 : (Lit.int .u8 a1).wf = true) (tab : ∀ j, j < 240 → w.cell? ⟨0, j, none⟩ = some (.int .i8 ((tabL : List Int).getD j 0))) :
    Calls Tryd.prog 5 #[.int .u8 a0, .int .u8 a1] w fun e w' => e = .returned (.bool true) ∧ Below w.heap.size w w' := by
  have t : Tab w := tab
  clear tab
  obtain ⟨x0, x1⟩ := bounds_u8 w0
  obtain ⟨y0, y1⟩ := bounds_u8 w1
  clear w0 w1
  obtain ⟨i, hi⟩ := Int.eq_ofNat_of_zero_le (show 0 ≤ a0 % 120 by omega)
  obtain ⟨k, hk⟩ := Int.eq_ofNat_of_zero_le (show 0 ≤ a1 % 120 by omega)
  have i1 : i < 120 := by omega
  have k1 : k < 120 := by omega
  have TT := hide t
  clear t
  go_enter Tryd.func5, Tryd.ntmps5
  go_wp2_with fail
  refine (point7_in i w i1 (unhide TT)).mono ?_
  rintro e w1 ⟨rfl, hb⟩
  have T1 := hide ((unhide TT).on hb)
  have B1 := hide hb
  clear hb
  go_wp2_with fail
  refine (point7_in k w1 k1 (unhide T1)).mono ?_
  rintro e w2 ⟨rfl, hb⟩
  have T2 := hide ((unhide T1).on hb)
  have B2 := hide hb
  clear hb
  go_wp2_with fail
  refine (ans9 w2 (unhide T2)).mono ?_
  rintro e w3 ⟨rfl, hb⟩
  have B3 := hide (then_below (then_below (unhide B1) (unhide B2)) hb)
  clear hb
  have p1 := px_small i i1
  have p2 := py_small i i1
  have q3 := p2.2.2
  obtain ⟨p11, p12⟩ := p1
  obtain ⟨p21, p22, _⟩ := p2
  by_cases hik : i = k
  · subst hik
    rcases q3 with q3 | q3
    · go_wp2
      go_ret
      exact ⟨rfl, unhide B3⟩
    · by_cases q4 : 0 < py i
      · go_wp2
        go_ret
        exact ⟨rfl, unhide B3⟩
      · go_wp2
        go_ret
        exact ⟨rfl, unhide B3⟩
  · have bik : ((i : Int) + 1 == (k : Int) + 1) = false := by simp; omega
    have hne : px i = px k → ¬ py i = py k := fun e1 e2 => hik (apart i i1 k k1 e1 e2)
    by_cases hx : px i = px k
    · have hy := hne hx
      have b1 : (px i == px k) = true := by simpa using hx
      have b2 : (py i == py k) = false := by simpa using hy
      clear hx hne
      rcases q3 with q3 | q3
      · go_wp2
        go_ret
        exact ⟨rfl, unhide B3⟩
      · by_cases q4 : 0 < py i
        · go_wp2
          go_ret
          exact ⟨rfl, unhide B3⟩
        · go_wp2
          go_ret
          exact ⟨rfl, unhide B3⟩
    · have b1 : (px i == px k) = false := by simpa using hx
      clear hne
      rcases q3 with q3 | q3
      · go_wp2
        go_ret
        exact ⟨rfl, unhide B3⟩
      · by_cases q4 : 0 < py i
        · go_wp2
          go_ret
          exact ⟨rfl, unhide B3⟩
        · go_wp2
          go_ret
          exact ⟨rfl, unhide B3⟩

set_option maxRecDepth 100000 in
theorem contract (H : Type) (enc : TypeId × Value → H) (W : World) (base : Nat) (args : Array Value) (ds gs : List (DataW H)) (before : List MemPlace)
    (hval : ∀ (j : Nat) t v, Tryd.f5.params[j]? = some t → args[j]? = some v → Value.okWide Tryd.prog W .any base t v)
    (hW : DataW.Whole enc Tryd.prog Tryd.f5.params.toList Rows.nearPointsSpec.vars false W args.toList ds gs before) (hL : laidMetH Tryd.prog Rows.nearPointsRow.laid W) :
    Calls Tryd.prog 5 args W fun e W' => ∃ v, e = .returned v ∧ Rows.nearPointsSpec.post enc Tryd.prog Tryd.f5 false true false false W args v W' := by
  have hW' := hW
  obtain ⟨p, q, hA0, hV, rfl, hfz, hnd⟩ := hW
  have hA : DataW.TrodAll enc Tryd.prog W 0 (fun _ => true) true Tryd.f5.params.toList args.toList ds p := hA0
  rw [Tryd.params5] at hA hval
  obtain ⟨v0, vs0, d0, ds0, p0, q0, hargs, rfl, rfl, h0, r0⟩ := trodAll_cons hA
  obtain ⟨v1, vs1, d1, ds1, p1, q1, rfl, rfl, rfl, h1, r1⟩ := trodAll_cons r0
  obtain ⟨rfl, rfl, rfl⟩ := trodAll_nil r1
  obtain rfl : args = #[v0, v1] := by cases args; simp_all
  obtain ⟨rfl, rfl⟩ := trodVars_none hV
  obtain ⟨a0, rfl, rfl, rfl, w0⟩ := open_int Tryd.underlying5 (hval 0 5 v0 rfl rfl) h0
  obtain ⟨a1, rfl, rfl, rfl, w1⟩ := open_int Tryd.underlying5 (hval 1 5 v1 rfl rfl) h1
  clear hA0
  refine (walk a0 a1 W w0 w1 (fun j hj => (table hL).cell gTab j hj)).mono fun e W' ⟨he, bel⟩ => ?_
  subst he
  exact ⟨_, rfl, _, _, _, [], _, [], hW', trodAll_mk1 (shut_bool Tryd.underlying4 _), (trodAll_cons_mk (shut_int Tryd.underlying5 w0) (trodAll_cons_mk (shut_int Tryd.underlying5 w1) trodAll_mk0)), rfl, bel.frame _, fun h => by cases h⟩

theorem laid_met (os : Os) : laidMet Tryd.prog Rows.nearPointsRow.laid (({ World.holding Tryd.prog os ⟨#[], #[], []⟩ with heap := (World.holding Tryd.prog os ⟨#[], #[], []⟩).heap.modify 0 fun | .cells _ t frozen => .cells (tabL.map (Value.int .i8)).toArray t frozen | o => o } : World).forCall (fun _ _ => 0) ⟨#[], #[.int .u8 0, .int .u8 0], []⟩).memory :=
  laidMet_of_run' 8 (by kernel_rfl) (by kernel_rfl)
theorem reads (os : Os) {H : Type} (enc : TypeId × Value → H) : ∃ places, DataW.whole enc Tryd.prog (({ World.holding Tryd.prog os ⟨#[], #[], []⟩ with heap := (World.holding Tryd.prog os ⟨#[], #[], []⟩).heap.modify 0 fun | .cells _ t frozen => .cells (tabL.map (Value.int .i8)).toArray t frozen | o => o } : World).forCall (fun _ _ => 0) ⟨#[], #[.int .u8 0, .int .u8 0], []⟩).memory Tryd.f5.params.toList Rows.nearPointsSpec.vars false (#[.int .u8 0, .int .u8 0] : Array Value).toList 8 = some ([.lit (.int .u8 0), .lit (.int .u8 0)], [], places) :=
  ⟨[], by kernel_rfl⟩
set_option maxRecDepth 100000 in
theorem lifted (os : Os) (started : os.Started) (H : Type) (enc : TypeId × Value → H) (F : Stop.Interp) :
    ReturnsInHanded {} Tryd.checked os 5 .any ((OpenSpec.ofChange Rows.nearPointsSpec).preRow enc Tryd.prog Tryd.f5 Rows.nearPointsRow.domain false Rows.nearPointsRow.laid) (((OpenSpec.ofChange Rows.nearPointsSpec).at F).post enc Tryd.prog Tryd.f5 false true false false) := by
  obtain ⟨places, hx⟩ := reads os enc
  refine returnsInHanded_of_row (C := Tryd.checked) (s := OpenSpec.ofChange Rows.nearPointsSpec) own started (by kernel_rfl) Tryd.func5
    (witness_row_at (enc := enc) (C := Tryd.checked) false ({ World.holding Tryd.prog os ⟨#[], #[], []⟩ with heap := (World.holding Tryd.prog os ⟨#[], #[], []⟩).heap.modify 0 fun | .cells _ t frozen => .cells (tabL.map (Value.int .i8)).toArray t frozen | o => o } : World) #[.int .u8 0, .int .u8 0] rfl (by kernel_rfl) (by kernel_rfl) (by kernel_rfl)
      (OpenSpec.preRow_of_cond 8 hx (by kernel_rfl) (fun k hk => by cases hk) (by kernel_rfl) (laid_met os))) ?_
  intro W base args ds gs before hval hW _ _ _ hL _ _
  exact contract H enc W base args ds gs before hval hW hL
theorem said : Rows.NearPointsSaid :=
  OpenClaim.holds_of_cond 5 Tryd.f5 rfl rfl rfl rfl rfl rfl rfl ⟨rfl, rfl, rfl, rfl, rfl⟩ rfl rfl rfl rfl rfl (by kernel_rfl) Tryd.func5 (by kernel_rfl)
    (of_decide_eq_true (by kernel_rfl)) (by unfold Func.isWrapper; first | (rw [if_pos (by decide +kernel)]; kernel_rfl) | (rw [if_neg (by decide +kernel)]; exact ⟨rfl, rfl⟩))
    (fun os started H enc _ F => by rw [OpenClaim.pre_eq_preRow]; exact lifted os started H enc F)
theorem plain (f : FuncId) (fn : Func) (hf : Tryd.pinned.checked.prog.funcNamed Rows.nearPointsRow.func = some f) (hfn : Tryd.pinned.checked.prog.funcs[f]? = some fn) :
    false = Tryd.pinned.checked.prog.looks [] ∧ ∀ (j : Nat) t, fn.params[j]? = some t → Tryd.pinned.checked.prog.wantsStandIn t = false := by
  obtain rfl : f = 5 := Option.some.inj ((show Tryd.prog.funcNamed Rows.nearPointsRow.func = some 5 by kernel_rfl).symm.trans hf) |>.symm
  obtain rfl : fn = Tryd.f5 := (Option.some.inj (Tryd.func5.symm.trans hfn)).symm
  refine ⟨by kernel_rfl, fun j t ht => ?_⟩
  rw [Tryd.params5] at ht
  have hm : t ∈ [5, 5] := by simpa using Array.mem_of_getElem? ht
  have hall : ([5, 5].all fun u => !Tryd.prog.wantsStandIn u) = true := by kernel_rfl
  exact (show Tryd.prog.wantsStandIn t = false by simpa using List.all_eq_true.1 hall t hm)
/-- The statement. -/
theorem proved : Rows.NearPointsCardSaid :=
  Claim7.holds_tied_plain_at .later [] _ _ _ _ said (fun _ h => by cases h) (by kernel_rfl) (fun _ h => by cases h) nearPoints_row_tie rfl ⟨rfl, rfl⟩ (by kernel_rfl) rfl plain (by kernel_rfl)
#print axioms proved
end Go.Proofs.YtpblcaihikdpmaaDoor.nearPoints
