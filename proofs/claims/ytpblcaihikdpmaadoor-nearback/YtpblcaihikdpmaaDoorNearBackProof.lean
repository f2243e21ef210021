/-
  What is proved: a distance has a code from 1 to 2 to the 20, that is the distance again, and no lesser code is it.
  Conditions: none (the card: the listed table is tied to the program's text).
-/
import Derived.Test.YtpblcaihikdpmaaDoorCards
import Derived.Test.YtpblcaihikdpmaaDoorTie
import Derived.Test.YtpblcaihikdpmaaDoorAns
import Derived.Test.YtpblcaihikdpmaaDoorRfd
import Derived.WalkKit
import Derived.ProofKit
import Derived.OpenShut
import Derived.ShutString
import Derived.ChangeOld
import Derived.Below
import Derived.Deep.DeepHandedRow
import Derived.Lib.LaidTab
namespace Go.Proofs.YtpblcaihikdpmaaDoor.nearBack
open Go.ChangeShapes Go.WideShapes Go.ChangeAt Go.RowKit
open Go.Proofs.YtpblcaihikdpmaaDoor.Core Go.Proofs.YtpblcaihikdpmaaDoor.Num Go.Proofs.YtpblcaihikdpmaaDoor.Pts Go.Proofs.YtpblcaihikdpmaaDoor.Ref Go.Proofs.YtpblcaihikdpmaaDoor.Rfd Go.Proofs.YtpblcaihikdpmaaDoor.Itr Go.Proofs.YtpblcaihikdpmaaDoor.Cde Go.Proofs.YtpblcaihikdpmaaDoor.Ans
open Go.ChangeMaps (open_string shut_string)
set_option linter.unusedVariables false

theorem own : ownKnob Tryd.prog.godebug = none := by kernel_rfl
theorem laidOut : laidOutB Tryd.prog = true := by kernel_rfl
/-- The table's name, as the row lists it. -/
def tabName : String := Rows.nearBackRow.named.headD ""
theorem gTab : Tryd.prog.globalNamed tabName = some 0 := by kernel_rfl
theorem gTabType : (Tryd.prog.globals[0]?).map (·.type) = some 43 := by kernel_rfl
theorem cellsT : Tryd.prog.cellsOf 43 = 240 := by kernel_rfl
theorem cellsE : Tryd.prog.cellsOf 42 = 1 := by kernel_rfl
set_option maxRecDepth 100000 in
theorem table {W : World} (h : laidMetH Tryd.prog Rows.nearBackRow.laid W) : Lib.TabIs Tryd.prog W tabName .i8 tabL :=
  Lib.tabIs_of_head (rest := []) gTab gTabType Tryd.underlying43 Tryd.underlying42 cellsE cellsT h

/-- A slice of integers that came in: nil, or a row of cells, each fitting its kind. -/
def IsRow (k : IntKind) (w : World) (a : Option Addr) (len cap : Nat) (zs : List Int) : Prop :=
  (a = none ∧ len = 0 ∧ cap = 0 ∧ zs = []) ∨
  ∃ x, a = some x ∧ len ≤ cap ∧ cap ≤ maxLen ∧ zs.length = cap ∧ (∀ i, i < zs.length → w.cell? (x.add i) = some (.int k (zs.getD i 0))) ∧ ∀ n ∈ zs, (Lit.int k n).wf = true
theorem back (d v : Int) (hd : 1 ≤ d ∧ d ≤ 1048456) (hv : wd v = true) : ∃ c, K d v = c ∧ 1 ≤ c ∧ c ≤ 1048576 ∧ D c v = d ∧ ∀ o, 1 ≤ o → o < c → D o v ≠ d := by
  rcases least d v with ⟨k, hk, hn, he⟩ | hn
  · refine ⟨_, K_at k ⟨hd.1, hd.2, hv⟩ hk hn he, by omega, by omega, (D_near k v hk hv).trans he, fun o h1 h2 => ?_⟩
    obtain ⟨m, rfl⟩ : ∃ m : Nat, o = (m : Int) + 1 := ⟨(o - 1).toNat, by omega⟩
    rw [D_near m v (by omega) hv]
    exact hn m (by omega)
  · refine ⟨_, K_none ⟨hd.1, hd.2, hv⟩ hn, by omega, by omega, ?_, fun o h1 h2 => ?_⟩
    · rw [D_far (by omega) (by omega) hv]
      omega
    · by_cases h3 : 120 < o
      · rw [D_far h3 (by omega) hv]
        omega
      · obtain ⟨m, rfl⟩ : ∃ m : Nat, o = (m : Int) + 1 := ⟨(o - 1).toNat, by omega⟩
        rw [D_near m v (by omega) hv]
        exact hn m (by omega)
set_option maxRecDepth 20000 in
set_option maxHeartbeats 4000000 in
theorem walk (a0 : Int) (a1 : Int) (a2 : Int) (w : World) (w0 : (Lit.int .u32 a0).wf = true) (w1 : (Lit.int .u16 a1).wf = true) (w2 : (Lit.int .u32 a2).wf = true) (tab : ∀ j, j < 240 → w.cell? ⟨0, j, none⟩ = some (.int .i8 ((tabL : List Int).getD j 0))) :
    Calls Tryd.prog 4 #[.int .u32 a0, .int .u16 a1, .int .u32 a2] w fun e w' => e = .returned (.bool true) ∧ Below w.heap.size w w' := by
  have t : Tab w := tab
  clear tab
  obtain ⟨x0, x1⟩ := bounds_u32 w0
  obtain ⟨y0, y1⟩ := bounds_u16 w1
  obtain ⟨z0, z1⟩ := bounds_u32 w2
  clear w0 w1 w2
  obtain ⟨p, hp⟩ := Int.eq_ofNat_of_zero_le (show 0 ≤ a0 % 1048456 by omega)
  obtain ⟨q, hq⟩ := Int.eq_ofNat_of_zero_le (show 0 ≤ a1 % 16384 by omega)
  obtain ⟨o, ho⟩ := Int.eq_ofNat_of_zero_le (show 0 ≤ a2 % 1048576 by omega)
  have p1 : (p : Int) < 1048456 := by omega
  have q1 : (q : Int) < 16384 := by omega
  have o1 : (o : Int) < 1048576 := by omega
  have vd : wd ((q : Int) + 1) = true := wd_in ⟨by omega, by omega⟩
  obtain ⟨c, hc, c1, c2, hD, hlow⟩ := back ((p : Int) + 1) ((q : Int) + 1) ⟨by omega, by omega⟩ vd
  have HC := hide hc
  have HD := hide hD
  have HL := hide hlow
  have TT := hide t
  clear t vd hc hD hlow
  go_enter Tryd.func4, Tryd.ntmps4
  go_wp2_with fail
  refine (code12 _ _ w (unhide TT)).mono ?_
  rintro e w1 ⟨rfl, hb⟩
  have T1 := hide ((unhide TT).on hb)
  have B1 := hide hb
  clear hb
  rw [unhide HC]
  go_wp2_with fail
  refine (ans9 w1 (unhide T1)).mono ?_
  rintro e w2 ⟨rfl, hb⟩
  have T2 := hide ((unhide T1).on hb)
  have B2 := hide (then_below (unhide B1) hb)
  clear hb
  go_wp2_with fail
  refine (dist10 _ _ w2 (unhide T2)).mono ?_
  rintro e w3 ⟨rfl, hb⟩
  have T3 := hide ((unhide T2).on hb)
  have B3 := hide (then_below (unhide B2) hb)
  clear hb
  rw [unhide HD]
  by_cases h1 : (o : Int) < 1
  · go_wp2
    go_ret
    exact ⟨rfl, unhide B3⟩
  · by_cases h2 : c ≤ (o : Int)
    · go_wp2
      go_ret
      exact ⟨rfl, unhide B3⟩
    · have bn : (D (o : Int) ((q : Int) + 1) != (p : Int) + 1) = true := by simpa using unhide HL (o : Int) (by omega) (by omega)
      go_wp2_with fail
      refine (dist10 _ _ w3 (unhide T3)).mono ?_
      rintro e w4 ⟨rfl, hb⟩
      have B4 := hide (then_below (unhide B3) hb)
      clear hb
      go_wp2
      go_ret
      exact ⟨rfl, unhide B4⟩

set_option maxRecDepth 100000 in
theorem contract (H : Type) (enc : TypeId × Value → H) (W : World) (base : Nat) (args : Array Value) (ds gs : List (DataW H)) (before : List MemPlace)
    (hval : ∀ (j : Nat) t v, Tryd.f4.params[j]? = some t → args[j]? = some v → Value.okWide Tryd.prog W .any base t v)
    (hW : DataW.Whole enc Tryd.prog Tryd.f4.params.toList Rows.nearBackSpec.vars false W args.toList ds gs before) (hL : laidMetH Tryd.prog Rows.nearBackRow.laid W) :
    Calls Tryd.prog 4 args W fun e W' => ∃ v, e = .returned v ∧ Rows.nearBackSpec.post enc Tryd.prog Tryd.f4 false true false false W args v W' := by
  have hW' := hW
  obtain ⟨p, q, hA0, hV, rfl, hfz, hnd⟩ := hW
  have hA : DataW.TrodAll enc Tryd.prog W 0 (fun _ => true) true Tryd.f4.params.toList args.toList ds p := hA0
  rw [Tryd.params4] at hA hval
  obtain ⟨v0, vs0, d0, ds0, p0, q0, hargs, rfl, rfl, h0, r0⟩ := trodAll_cons hA
  obtain ⟨v1, vs1, d1, ds1, p1, q1, rfl, rfl, rfl, h1, r1⟩ := trodAll_cons r0
  obtain ⟨v2, vs2, d2, ds2, p2, q2, rfl, rfl, rfl, h2, r2⟩ := trodAll_cons r1
  obtain ⟨rfl, rfl, rfl⟩ := trodAll_nil r2
  obtain rfl : args = #[v0, v1, v2] := by cases args; simp_all
  obtain ⟨rfl, rfl⟩ := trodVars_none hV
  obtain ⟨a0, rfl, rfl, rfl, w0⟩ := open_int Tryd.underlying27 (hval 0 27 v0 rfl rfl) h0
  obtain ⟨a1, rfl, rfl, rfl, w1⟩ := open_int Tryd.underlying28 (hval 1 28 v1 rfl rfl) h1
  obtain ⟨a2, rfl, rfl, rfl, w2⟩ := open_int Tryd.underlying27 (hval 2 27 v2 rfl rfl) h2
  clear hA0
  refine (walk a0 a1 a2 W w0 w1 w2 (fun j hj => (table hL).cell gTab j hj)).mono fun e W' ⟨he, bel⟩ => ?_
  subst he
  exact ⟨_, rfl, _, _, _, [], _, [], hW', trodAll_mk1 (shut_bool Tryd.underlying4 _), (trodAll_cons_mk (shut_int Tryd.underlying27 w0) (trodAll_cons_mk (shut_int Tryd.underlying28 w1) (trodAll_cons_mk (shut_int Tryd.underlying27 w2) trodAll_mk0))), rfl, bel.frame _, fun h => by cases h⟩

theorem laid_met (os : Os) : laidMet Tryd.prog Rows.nearBackRow.laid (({ World.holding Tryd.prog os ⟨#[], #[], []⟩ with heap := (World.holding Tryd.prog os ⟨#[], #[], []⟩).heap.modify 0 fun | .cells _ t frozen => .cells (tabL.map (Value.int .i8)).toArray t frozen | o => o } : World).forCall (fun _ _ => 0) ⟨#[], #[.int .u32 0, .int .u16 0, .int .u32 0], []⟩).memory :=
  laidMet_of_run' 8 (by kernel_rfl) (by kernel_rfl)
theorem reads (os : Os) {H : Type} (enc : TypeId × Value → H) : ∃ places, DataW.whole enc Tryd.prog (({ World.holding Tryd.prog os ⟨#[], #[], []⟩ with heap := (World.holding Tryd.prog os ⟨#[], #[], []⟩).heap.modify 0 fun | .cells _ t frozen => .cells (tabL.map (Value.int .i8)).toArray t frozen | o => o } : World).forCall (fun _ _ => 0) ⟨#[], #[.int .u32 0, .int .u16 0, .int .u32 0], []⟩).memory Tryd.f4.params.toList Rows.nearBackSpec.vars false (#[.int .u32 0, .int .u16 0, .int .u32 0] : Array Value).toList 8 = some ([.lit (.int .u32 0), .lit (.int .u16 0), .lit (.int .u32 0)], [], places) :=
  ⟨[], by kernel_rfl⟩
set_option maxRecDepth 100000 in
theorem lifted (os : Os) (started : os.Started) (H : Type) (enc : TypeId × Value → H) (F : Stop.Interp) :
    ReturnsInHanded {} Tryd.checked os 4 .any ((OpenSpec.ofChange Rows.nearBackSpec).preRow enc Tryd.prog Tryd.f4 Rows.nearBackRow.domain false Rows.nearBackRow.laid) (((OpenSpec.ofChange Rows.nearBackSpec).at F).post enc Tryd.prog Tryd.f4 false true false false) := by
  obtain ⟨places, hx⟩ := reads os enc
  refine returnsInHanded_of_row (C := Tryd.checked) (s := OpenSpec.ofChange Rows.nearBackSpec) own started (by kernel_rfl) Tryd.func4
    (witness_row_at (enc := enc) (C := Tryd.checked) false ({ World.holding Tryd.prog os ⟨#[], #[], []⟩ with heap := (World.holding Tryd.prog os ⟨#[], #[], []⟩).heap.modify 0 fun | .cells _ t frozen => .cells (tabL.map (Value.int .i8)).toArray t frozen | o => o } : World) #[.int .u32 0, .int .u16 0, .int .u32 0] rfl (by kernel_rfl) (by kernel_rfl) (by kernel_rfl)
      (OpenSpec.preRow_of_cond 8 hx (by kernel_rfl) (fun k hk => by cases hk) (by kernel_rfl) (laid_met os))) ?_
  intro W base args ds gs before hval hW _ _ _ hL _ _
  exact contract H enc W base args ds gs before hval hW hL
theorem said : Rows.NearBackSaid :=
  OpenClaim.holds_of_cond 4 Tryd.f4 rfl rfl rfl rfl rfl rfl rfl ⟨rfl, rfl, rfl, rfl, rfl⟩ rfl rfl rfl rfl rfl (by kernel_rfl) Tryd.func4 (by kernel_rfl)
    (of_decide_eq_true (by kernel_rfl)) (by unfold Func.isWrapper; first | (rw [if_pos (by decide +kernel)]; kernel_rfl) | (rw [if_neg (by decide +kernel)]; exact ⟨rfl, rfl⟩))
    (fun os started H enc _ F => by rw [OpenClaim.pre_eq_preRow]; exact lifted os started H enc F)
theorem plain (f : FuncId) (fn : Func) (hf : Tryd.pinned.checked.prog.funcNamed Rows.nearBackRow.func = some f) (hfn : Tryd.pinned.checked.prog.funcs[f]? = some fn) :
    false = Tryd.pinned.checked.prog.looks [] ∧ ∀ (j : Nat) t, fn.params[j]? = some t → Tryd.pinned.checked.prog.wantsStandIn t = false := by
  obtain rfl : f = 4 := Option.some.inj ((show Tryd.prog.funcNamed Rows.nearBackRow.func = some 4 by kernel_rfl).symm.trans hf) |>.symm
  obtain rfl : fn = Tryd.f4 := (Option.some.inj (Tryd.func4.symm.trans hfn)).symm
  refine ⟨by kernel_rfl, fun j t ht => ?_⟩
  rw [Tryd.params4] at ht
  have hm : t ∈ [27, 28, 27] := by simpa using Array.mem_of_getElem? ht
  have hall : ([27, 28, 27].all fun u => !Tryd.prog.wantsStandIn u) = true := by kernel_rfl
  exact (show Tryd.prog.wantsStandIn t = false by simpa using List.all_eq_true.1 hall t hm)
/-- The statement. -/
theorem proved : Rows.NearBackCardSaid :=
  Claim7.holds_tied_plain_at .later [] _ _ _ _ said (fun _ h => by cases h) (by kernel_rfl) (fun _ h => by cases h) nearBack_row_tie rfl ⟨rfl, rfl⟩ (by kernel_rfl) rfl plain (by kernel_rfl)
#print axioms proved
end Go.Proofs.YtpblcaihikdpmaaDoor.nearBack
