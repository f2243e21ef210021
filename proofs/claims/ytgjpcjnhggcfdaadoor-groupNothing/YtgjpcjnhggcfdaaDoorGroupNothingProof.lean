/-
  What is proved: whatever the pixel, the cache and the bytes: a group of which each code has one symbol tells one pixel again and again, without bits; the bytes read behind the call as before (Rows.GroupNothingCardSaid).
  Conditions: none (the card: the listed table is tied to the program's text).
-/
import Derived.Test.YtgjpcjnhggcfdaaDoorCards
import Derived.Test.YtgjpcjnhggcfdaaDoorTie
import Derived.Test.YtgjpcjnhggcfdaaDoorHTab
import Derived.Test.YtgjpcjnhggcfdaaDoorHNot
import Derived.WalkKit
import Derived.ProofKit
import Derived.OpenShut
import Derived.ShutString
import Derived.ChangeOld
import Derived.Below
import Derived.Deep.DeepHandedRow
import Derived.Lib.LaidTab
namespace Go.Proofs.YtgjpcjnhggcfdaaDoor.groupNothing
open Go.ChangeShapes Go.WideShapes Go.ChangeAt Go.RowKit
open Go.Proofs.YtgjpcjnhggcfdaaDoor.Core Go.Proofs.YtgjpcjnhggcfdaaDoor.Gnd Go.Proofs.YtgjpcjnhggcfdaaDoor.Math Go.Proofs.YtgjpcjnhggcfdaaDoor.Bitin Go.Proofs.YtgjpcjnhggcfdaaDoor.Ord Go.Proofs.YtgjpcjnhggcfdaaDoor.Tre Go.Proofs.YtgjpcjnhggcfdaaDoor.Sml Go.Proofs.YtgjpcjnhggcfdaaDoor.Foot Go.Proofs.YtgjpcjnhggcfdaaDoor.Add Go.Proofs.YtgjpcjnhggcfdaaDoor.HTw Go.Proofs.YtgjpcjnhggcfdaaDoor.PNum Go.Proofs.YtgjpcjnhggcfdaaDoor.HTab Go.Proofs.YtgjpcjnhggcfdaaDoor.HNum Go.Proofs.YtgjpcjnhggcfdaaDoor.HSiz Go.Proofs.YtgjpcjnhggcfdaaDoor.HFit Go.Proofs.YtgjpcjnhggcfdaaDoor.HFiv Go.Proofs.YtgjpcjnhggcfdaaDoor.HNew Go.Proofs.YtgjpcjnhggcfdaaDoor.HHas Go.Proofs.YtgjpcjnhggcfdaaDoor.HTel Go.Proofs.YtgjpcjnhggcfdaaDoor.HPar Go.Proofs.YtgjpcjnhggcfdaaDoor.HAns Go.Proofs.YtgjpcjnhggcfdaaDoor.HStp Go.Proofs.YtgjpcjnhggcfdaaDoor.HNot
open Go.ChangeMaps (open_string shut_string)
set_option linter.unusedVariables false

theorem own : ownKnob Tryd.prog.godebug = none := by kernel_rfl
theorem laidOut : laidOutB Tryd.prog = true := by kernel_rfl
/-- The table's name, as the row lists it. -/
def tabName : String := Rows.groupNothingRow.named.headD ""
theorem gTab : Tryd.prog.globalNamed tabName = some 0 := by kernel_rfl
theorem gTabType : (Tryd.prog.globals[0]?).map (·.type) = some 124 := by kernel_rfl
theorem cellsT : Tryd.prog.cellsOf 124 = 240 := by kernel_rfl
theorem cellsE : Tryd.prog.cellsOf 97 = 1 := by kernel_rfl
set_option maxRecDepth 100000 in
theorem table {W : World} (h : laidMetH Tryd.prog Rows.groupNothingRow.laid W) : Lib.TabIs Tryd.prog W tabName .i8 tabL :=
  Lib.tabIs_of_head (rest := []) gTab gTabType Tryd.underlying124 Tryd.underlying97 cellsE cellsT h

/-- A slice of integers that came in: nil, or a row of cells, each fitting its kind. -/
def IsRow (k : IntKind) (w : World) (a : Option Addr) (len cap : Nat) (zs : List Int) : Prop :=
  (a = none ∧ len = 0 ∧ cap = 0 ∧ zs = []) ∨
  ∃ x, a = some x ∧ len ≤ cap ∧ cap ≤ maxLen ∧ zs.length = cap ∧ (∀ i, i < zs.length → w.cell? (x.add i) = some (.int k (zs.getD i 0))) ∧ ∀ n ∈ zs, (Lit.int k n).wf = true

set_option maxRecDepth 20000 in
set_option maxHeartbeats 4000000 in
theorem walk (a0 : Int) (a1 : Int) (a2 : Option Addr) (len2 cap2 : Nat) (z2 : List Int) (w : World) (w0 : (Lit.int .u32 a0).wf = true) (w1 : (Lit.int .u8 a1).wf = true) (w2 : IsRow .u8 w a2 len2 cap2 z2) (tab : ∀ j, j < 240 → w.cell? ⟨0, j, none⟩ = some (.int .i8 ((tabL : List Int).getD j 0))) :
    Calls Tryd.prog 3 #[.int .u32 a0, .int .u8 a1, .slice a2 len2 cap2] w fun e w' => e = .returned (.bool true) ∧ Below w.heap.size w w' := by
---
  obtain ⟨p0, p1⟩ := bounds_u32 w0
  obtain ⟨c0, c1⟩ := bounds_u8 w1
  obtain ⟨p, rfl⟩ : ∃ p : Nat, a0 = (p : Int) := ⟨a0.toNat, by omega⟩
  obtain ⟨q, rfl⟩ : ∃ q : Nat, a1 = (q : Int) := ⟨a1.toNat, by omega⟩
  obtain ⟨bc, hbc, src⟩ := src_of_row w2
  clear w0 w1 w2 tab
  have hq : ((q : Int)).tmod 12 = ((q % 12 : Nat) : Int) := rfl
  have hm : q % 12 ≤ 11 := by omega
  generalize q % 12 = m at *
  by_cases hl : 50 < len2
  · have hl' : decide ((50 : Int) < (len2 : Int)) = true := decide_eq_true (by omega)
    have A := hide (answers4 w)
    clear src hbc
    go_enter Tryd.func3, Tryd.ntmps3
    go_wp2_with fail
    refine (unhide A).mono ?_
    rintro e w4 ⟨rfl, b4⟩
    have B4 := hide b4
    clear b4 A
    go_wp2
    go_ret
    exact ⟨rfl, unhide B4⟩
  · have hl' : decide ((50 : Int) < (len2 : Int)) = false := decide_eq_false (by omega)
    have hl2 : len2 ≤ 50 := by omega
    have hp : p < 4294967296 := by omega
    obtain ⟨x0, x1, x2⟩ := xor1 p hp
    have X01 := hide (And.intro x0 x1)
    have e8 : bits .and .u32 ((p : Int) / 256) 255 = ((ats p 0 : Nat) : Int) := and255 (p / 256) (by omega)
    have e16 : bits .and .u32 ((p : Int) / 65536) 255 = ((ats p 1 : Nat) : Int) := and255 (p / 65536) (by omega)
    have e0 : bits .and .u32 (p : Int) 255 = ((ats p 2 : Nat) : Int) := by rw [and255 p hp]; show _ = ((pt p 3 : Nat) : Int); rw [pt_3]
    have e24 : (p : Int) / 16777216 = ((ats p 3 : Nat) : Int) := by
      show _ = ((pt p 0 : Nat) : Int)
      rw [pt_0, Nat.mod_eq_of_lt (by omega)]; rfl
    have l0 := ats_bd p 0
    have l1 := ats_bd p 1
    have l2 := ats_bd p 2
    have l3 := ats_bd p 3
    have FV := hide (fun w => five5 (ats p) (ats_bd p) m hm w)
    rw [show (a16 (ats p)) = #[.int .u16 (ats p 0), .int .u16 (ats p 1), .int .u16 (ats p 2), .int .u16 (ats p 3), .int .u16 7] from rfl] at FV
    have HP := hide (And.intro hp hm)
    have SRC := hide src
    have HBC := hide hbc
    clear hp x0 x1 src hbc hl
    generalize hat0 : ats p 0 = t0 at e8 l0 FV
    generalize hat1 : ats p 1 = t1 at e16 l1 FV
    generalize hat2 : ats p 2 = t2 at e0 l2 FV
    generalize hat3 : ats p 3 = t3 at e24 l3 FV
    clear hat0 hat1 hat2 hat3
    generalize hxx : (p ^^^ 1) = x at *
    go_enter Tryd.func3, Tryd.ntmps3
    go_wp2_with fail
    refine (unhide FV w).mono ?_
    rintro e w3 ⟨⟨G, rfl, rws⟩, b3⟩
    have NI := hide (fun (w' : World) (b : Below w3.heap.size w3 w') => new6 (fun i => some ⟨G i, 0, none⟩) (sz m) m (unhide HP).2 (fo p) w' (fun i hi => ((lens_of rws (unhide HP).2 i hi).keep b)) (fun i hi => fo_chk p m i hi (unhide HP).2))
    simp only [fv, sl5] at NI
    have B3 := hide b3
    clear rws b3 FV
    simp only [fv, gs]
    go_wp2_with fail
    refine (unhide NI _ (bel_a1 _ _)).mono ?_
    rintro e w4 ⟨⟨g, T, rfl, gr⟩, b4⟩
    have B4 := hide (bel_into ((unhide B3).alloc (unhide B3).size _) b4)
    have GR := hide gr
    have glo := gr.low
    have SR := hide ((unhide SRC).keep (Upd.ofBelow (S := fun _ => False) (unhide B4)) (fun _ h => absurd h id))
    clear gr b4 NI B3
    go_wp2_with fail
    refine (Bitin.new8 _ _ bc _ (unhide SR) (by omega)).mono ?_
    rintro e w5 ⟨r, rfl, on5, b5⟩
    have B5 := hide (bel_into (unhide B4) b5)
    have hr0 : w.heap.size ≤ r := Nat.le_trans (unhide B4).size on5.at.1
    obtain ⟨lo, hi, ga⟩ : ∃ lo hi, GA w5 lo hi g m T (fo p) w4.heap.size w5.heap.size r len2 0 bc := ⟨_, _, (unhide GR).below b5, on5.at, .inr on5.at.1⟩
    have GA5 := hide ga
    clear on5 b5 GR SR SRC B4 ga
    generalize w4.heap.size = h4 at *
    go_wp2
    generalize w5.heap.size = h5 at *
    go_loopw [12] (fun x wr => ∃ k : Nat, k ≤ 10 ∧ x = .int .i64 k ∧ GA wr lo hi g m T (fo p) h4 h5 r len2 0 bc ∧ Below w.heap.size w wr) (fun x _ => 10 - (intOf x).toNat)
    case atStart => exact ⟨0, by omega, rfl, unhide GA5, unhide B5⟩
    case round =>
      obtain ⟨k, hk, rfl, ga, be⟩ := hrel
      have GA6 := hide ga
      have B6 := hide be
      have BW := hide be
      clear GA5 B5 ga be
      by_cases hlt : k < 10
      · have hlt' : (k : Int) < 10 := by omega
        have ST := hide (step9 (unhide GA6) (unhide HBC) (by omega) (unhide HP).1 (unhide HP).2)
        go_wp2_with fail
        refine (unhide ST).mono ?_
        rintro e w7 ⟨rfl, gb⟩
        have G7 := hide (gb.ga.keep ((Upd.refl (fun _ => False) w7).alloc (.cells #[.int .i64 1, .int .i64 0, .int .i64 0, .int .i64 0, .int .u32 p] 39)) (fun _ _ _ h => h) (fun _ _ _ h => h))
        have B7 := hide (((unhide B6).trans (gb.upd.below w.heap.size (unhide B6).size (fun j hj => by have : j = r := hj; omega))).alloc (Nat.le_trans (unhide B6).size gb.upd.size) (.cells #[.int .i64 1, .int .i64 0, .int .i64 0, .int .i64 0, .int .u32 p] 39))
        have LS := hide (left_step h4 h5 r len2 (some 0) bc _ (unhide G7).rd (by omega))
        have e8l : Bitin.leftOf len2 (some 0) = 8 * len2 := rfl
        have e8m : ((8 * len2 : Nat) : Int) = 8 * (len2 : Int) := by omega
        rw [e8l, e8m] at LS
        clear gb ST e8l e8m
        simp only [tkc]
        go_wp2_with fail
        refine (unhide LS).mono ?_
        rintro e w8 ⟨rfl, nq, hw8⟩
        have G8 := hide ((unhide G7).keep ((Upd.refl (fun _ => False) _).drewN nq) (fun _ _ _ h => h) (fun _ _ _ h => h))
        have B8 := hide (bel_drN (unhide B7) nq)
        rw [← hw8] at G8 B8
        clear hw8 LS G7 B7
        go_wp2
        go_roundw
        case rel => exact ⟨k + 1, by omega, by go_num, unhide G8, unhide B8⟩
        case measure => simp [intOf]; omega
      · obtain rfl : k = 10 := by omega
        go_wp2_with fail
        refine (nw_new _).mono ?_
        rintro e w7 ⟨gw, u, rfl, n7⟩
        have hsz := hide (unhide GA6).gr.hi_le
        have G7 := hide ((unhide GA6).gr.below n7.bel)
        have B7 := hide (bel_into (unhide B6) n7.bel)
        have N7 := hide n7
        clear n7 GA6 B6
        go_wp2_with fail
        refine (answers4 _).mono ?_
        rintro e w8 ⟨rfl, b8⟩
        have G8 := hide ((unhide G7).below b8)
        have B8 := hide (bel_into (unhide B7) b8)
        have N8 := hide ((unhide N7).keep b8)
        clear b8 G7 B7 N7
        have TE := hide (tell11 (unhide G8) (fun i _ => fo_rng p m i) (unhide N8).wri (by omega) (fun j _ h2 h3 => by have := (unhide N8).ft j h3; have := unhide hsz; omega) ⟨1, 0, 0, 0, p⟩ 9 true (plit p) (fun i _ => plit_bits p i) (fun w' _ => parts24_lit 0 0 0 p 9 _ (by omega) (by omega) w') true _ 0 (by rw [ok_lit p m (unhide HP).2]; rfl) (fun _ => ⟨rfl, (tn_lit p m 0 (unhide HP).2).symm⟩) (fun h => by cases h))
        simp only [tkc] at TE
        go_wp2_with fail
        refine (unhide TE).mono ?_
        rintro e w9 ⟨rfl, u9, t9⟩
        have G9 := hide (show Gr w9 lo hi g m T (fo p) from (unhide G8).keep t9.turn.upd (fun j _ h2 h3 => by have := (unhide N8).ft j h3; have := unhide hsz; omega))
        have N9 := hide (Tw.nw (unhide N8) t9)
        clear t9 TE G8 N8
        have LN := hide (Wri.len_at gw u9 _ 0 w9 (unhide N9).wri (by omega))
        go_wp2_with fail
        refine (unhide LN).mono ?_
        rintro e wA ⟨rfl, nq, hwA⟩
        have GA' := hide (show Gr (w9.drewN nq) lo hi g m T (fo p) from (unhide G9).keep ((Upd.refl (fun _ => False) _).drewN nq) (fun _ _ _ h => h))
        have NA := hide ((unhide N9).drewN nq)
        rw [← hwA] at GA' NA
        clear hwA LN G9 N9
        have TF := hide (tell11 (unhide GA') (fun i _ => fo_rng p m i) (unhide NA).wri (by omega) (fun j _ h2 h3 => by have := (unhide NA).ft j h3; have := unhide hsz; omega) ⟨1, 0, 0, 0, x⟩ 9 true (plit x) (fun i _ => plit_bits x i) (fun w' _ => parts24_lit 0 0 0 x 9 _ (by omega) (by omega) w') false _ _ (by rw [no_lit p x m (unhide HP).2 (unhide X01).2]; rfl) (fun h => by cases h) (fun _ => ⟨rfl, rfl⟩))
        simp only [tkc] at TF
        go_wp2_with fail
        refine (unhide TF).mono ?_
        rintro e wB ⟨rfl, uB, tB⟩
        have NB := hide (Tw.nw (unhide NA) tB)
        clear tB TF NA GA'
        go_wp2
        go_ret
        exact ⟨rfl, (unhide BW).trans ((unhide NB).bel.mono (unhide BW).size)⟩

set_option maxRecDepth 100000 in
theorem contract (H : Type) (enc : TypeId × Value → H) (W : World) (base : Nat) (args : Array Value) (ds gs : List (DataW H)) (before : List MemPlace)
    (hval : ∀ (j : Nat) t v, Tryd.f3.params[j]? = some t → args[j]? = some v → Value.okWide Tryd.prog W .any base t v)
    (hW : DataW.Whole enc Tryd.prog Tryd.f3.params.toList Rows.groupNothingSpec.vars false W args.toList ds gs before) (hL : laidMetH Tryd.prog Rows.groupNothingRow.laid W) :
    Calls Tryd.prog 3 args W fun e W' => ∃ v, e = .returned v ∧ Rows.groupNothingSpec.post enc Tryd.prog Tryd.f3 false true false false W args v W' := by
  have hW' := hW
  obtain ⟨p, q, hA0, hV, rfl, hfz, hnd⟩ := hW
  have hA : DataW.TrodAll enc Tryd.prog W 0 (fun _ => true) true Tryd.f3.params.toList args.toList ds p := hA0
  rw [Tryd.params3] at hA hval
  obtain ⟨v0, vs0, d0, ds0, p0, q0, hargs, rfl, rfl, h0, r0⟩ := trodAll_cons hA
  obtain ⟨v1, vs1, d1, ds1, p1, q1, rfl, rfl, rfl, h1, r1⟩ := trodAll_cons r0
  obtain ⟨v2, vs2, d2, ds2, p2, q2, rfl, rfl, rfl, h2, r2⟩ := trodAll_cons r1
  obtain ⟨rfl, rfl, rfl⟩ := trodAll_nil r2
  obtain rfl : args = #[v0, v1, v2] := by cases args; simp_all
  obtain ⟨rfl, rfl⟩ := trodVars_none hV
  obtain ⟨a0, rfl, rfl, rfl, w0⟩ := open_int Tryd.underlying22 (hval 0 22 v0 rfl rfl) h0
  obtain ⟨a1, rfl, rfl, rfl, w1⟩ := open_int Tryd.underlying5 (hval 1 5 v1 rfl rfl) h1
  obtain ⟨a2, len2, cap2, rfl⟩ := okWide_slice Tryd.underlying23 (hval 2 23 v2 rfl rfl)
  have k2 := h2
  have lt2 : ∀ x ∈ p2, x.block < W.heap.size := by obtain ⟨m, hm⟩ := k2; exact DataW.trod_lt m _ _ _ hm
  obtain ⟨z2, w2⟩ : ∃ zs, IsRow .u8 W a2 len2 cap2 zs := by
    obtain ⟨fuel, hf⟩ := h2
    rcases open_ints Tryd.underlying23 Tryd.underlying5 (by kernel_rfl) hf with ⟨hcs, _⟩ | ⟨x, l, c, zs, hcs, _, hl, hm, hz, _, hcell, hwz⟩
    · simp [Value.cells] at hcs
      obtain ⟨rfl, rfl, rfl⟩ := hcs
      exact ⟨[], .inl ⟨rfl, rfl, rfl, rfl⟩⟩
    · simp [Value.cells] at hcs
      obtain ⟨rfl, rfl, rfl⟩ := hcs
      exact ⟨zs, .inr ⟨_, rfl, hl, hm, by simpa using hz, hcell, hwz⟩⟩
  clear hA0
  refine (walk a0 a1 a2 len2 cap2 z2 W w0 w1 w2 (fun j hj => (table hL).cell gTab j hj)).mono fun e W' ⟨he, bel⟩ => ?_
  subst he
  exact ⟨_, rfl, _, _, _, [], _, [], hW', trodAll_mk1 (shut_bool Tryd.underlying4 _), (trodAll_cons_mk (shut_int Tryd.underlying22 w0) (trodAll_cons_mk (shut_int Tryd.underlying5 w1) (trodAll_cons_mk (Below.trod laidOut (by kernel_rfl) (of_decide_eq_true (by kernel_rfl)) k2 bel lt2) trodAll_mk0))), rfl, bel.frame _, fun h => by cases h⟩

theorem laid_met (os : Os) : laidMet Tryd.prog Rows.groupNothingRow.laid (({ World.holding Tryd.prog os ⟨#[], #[], []⟩ with heap := (World.holding Tryd.prog os ⟨#[], #[], []⟩).heap.modify 0 fun | .cells _ t frozen => .cells (tabL.map (Value.int .i8)).toArray t frozen | o => o } : World).forCall (fun _ _ => 0) ⟨#[], #[.int .u32 0, .int .u8 0, .slice none 0 0], []⟩).memory :=
  laidMet_of_run' 8 (by kernel_rfl) (by kernel_rfl)
theorem reads (os : Os) {H : Type} (enc : TypeId × Value → H) : ∃ places, DataW.whole enc Tryd.prog (({ World.holding Tryd.prog os ⟨#[], #[], []⟩ with heap := (World.holding Tryd.prog os ⟨#[], #[], []⟩).heap.modify 0 fun | .cells _ t frozen => .cells (tabL.map (Value.int .i8)).toArray t frozen | o => o } : World).forCall (fun _ _ => 0) ⟨#[], #[.int .u32 0, .int .u8 0, .slice none 0 0], []⟩).memory Tryd.f3.params.toList Rows.groupNothingSpec.vars false (#[.int .u32 0, .int .u8 0, .slice none 0 0] : Array Value).toList 8 = some ([.lit (.int .u32 0), .lit (.int .u8 0), .nil], [], places) :=
  ⟨[], by kernel_rfl⟩
set_option maxRecDepth 100000 in
theorem lifted (os : Os) (started : os.Started) (H : Type) (enc : TypeId × Value → H) (F : Stop.Interp) :
    ReturnsInHanded {} Tryd.checked os 3 .any ((OpenSpec.ofChange Rows.groupNothingSpec).preRow enc Tryd.prog Tryd.f3 Rows.groupNothingRow.domain false Rows.groupNothingRow.laid) (((OpenSpec.ofChange Rows.groupNothingSpec).at F).post enc Tryd.prog Tryd.f3 false true false false) := by
  obtain ⟨places, hx⟩ := reads os enc
  refine returnsInHanded_of_row (C := Tryd.checked) (s := OpenSpec.ofChange Rows.groupNothingSpec) own started (by kernel_rfl) Tryd.func3
    (witness_row_at (enc := enc) (C := Tryd.checked) false ({ World.holding Tryd.prog os ⟨#[], #[], []⟩ with heap := (World.holding Tryd.prog os ⟨#[], #[], []⟩).heap.modify 0 fun | .cells _ t frozen => .cells (tabL.map (Value.int .i8)).toArray t frozen | o => o } : World) #[.int .u32 0, .int .u8 0, .slice none 0 0] rfl (by kernel_rfl) (by kernel_rfl) (by kernel_rfl)
      (OpenSpec.preRow_of_cond 8 hx (by kernel_rfl) (fun k hk => by cases hk) (by kernel_rfl) (laid_met os))) ?_
  intro W base args ds gs before hval hW _ _ _ hL _ _
  exact contract H enc W base args ds gs before hval hW hL
theorem said : Rows.GroupNothingSaid :=
  OpenClaim.holds_of_cond 3 Tryd.f3 rfl rfl rfl rfl rfl rfl rfl ⟨rfl, rfl, rfl, rfl, rfl⟩ rfl rfl rfl rfl rfl (by kernel_rfl) Tryd.func3 (by kernel_rfl)
    (of_decide_eq_true (by kernel_rfl)) (by unfold Func.isWrapper; first | (rw [if_pos (by decide +kernel)]; kernel_rfl) | (rw [if_neg (by decide +kernel)]; exact ⟨rfl, rfl⟩))
    (fun os started H enc _ F => by rw [OpenClaim.pre_eq_preRow]; exact lifted os started H enc F)
theorem plain (f : FuncId) (fn : Func) (hf : Tryd.pinned.checked.prog.funcNamed Rows.groupNothingRow.func = some f) (hfn : Tryd.pinned.checked.prog.funcs[f]? = some fn) :
    false = Tryd.pinned.checked.prog.looks [] ∧ ∀ (j : Nat) t, fn.params[j]? = some t → Tryd.pinned.checked.prog.wantsStandIn t = false := by
  obtain rfl : f = 3 := Option.some.inj ((show Tryd.prog.funcNamed Rows.groupNothingRow.func = some 3 by kernel_rfl).symm.trans hf) |>.symm
  obtain rfl : fn = Tryd.f3 := (Option.some.inj (Tryd.func3.symm.trans hfn)).symm
  refine ⟨by kernel_rfl, fun j t ht => ?_⟩
  rw [Tryd.params3] at ht
  have hm : t ∈ [22, 5, 23] := by simpa using Array.mem_of_getElem? ht
  have hall : ([22, 5, 23].all fun u => !Tryd.prog.wantsStandIn u) = true := by kernel_rfl
  exact (show Tryd.prog.wantsStandIn t = false by simpa using List.all_eq_true.1 hall t hm)
/-- The statement. -/
theorem proved : Rows.GroupNothingCardSaid :=
  Claim7.holds_tied_plain_at .later [] _ _ _ _ said (fun _ h => by cases h) (by kernel_rfl) (fun _ h => by cases h) groupNothing_row_tie rfl ⟨rfl, rfl⟩ (by kernel_rfl) rfl plain (by kernel_rfl)
#print axioms proved
end Go.Proofs.YtgjpcjnhggcfdaaDoor.groupNothing
