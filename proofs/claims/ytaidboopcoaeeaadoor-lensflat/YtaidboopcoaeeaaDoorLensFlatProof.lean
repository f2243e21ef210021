/-
  What is proved: as many lengths as two to some number, all of that, with any number of noughts behind, are written and read again as themselves, in more than five bits (Rows.LensFlatCardSaid).
  Conditions: none (the card: the listed table is tied to the program's text).
-/
import Derived.Test.YtaidboopcoaeeaaDoorCards
import Derived.Test.YtaidboopcoaeeaaDoorTie
import Derived.Test.YtaidboopcoaeeaaDoorC17
import Derived.WalkKit
import Derived.ProofKit
import Derived.OpenShut
import Derived.ShutString
import Derived.ChangeOld
import Derived.Below
import Derived.Deep.DeepHandedRow
import Derived.Lib.LaidTab
namespace Go.Proofs.YtaidboopcoaeeaaDoor.lensFlat
open Go.ChangeShapes Go.WideShapes Go.ChangeAt Go.RowKit
open Go.Proofs.YtaidboopcoaeeaaDoor.Core Go.Proofs.YtaidboopcoaeeaaDoor.Gnd Go.Proofs.YtaidboopcoaeeaaDoor.Math Go.Proofs.YtaidboopcoaeeaaDoor.Ord Go.Proofs.YtaidboopcoaeeaaDoor.Lsp Go.Proofs.YtaidboopcoaeeaaDoor.Lrh Go.Proofs.YtaidboopcoaeeaaDoor.Foot Go.Proofs.YtaidboopcoaeeaaDoor.Add Go.Proofs.YtaidboopcoaeeaaDoor.Byt Go.Proofs.YtaidboopcoaeeaaDoor.Bitin Go.Proofs.YtaidboopcoaeeaaDoor.Eyes Go.Proofs.YtaidboopcoaeeaaDoor.Wra Go.Proofs.YtaidboopcoaeeaaDoor.Wsg Go.Proofs.YtaidboopcoaeeaaDoor.Wsl Go.Proofs.YtaidboopcoaeeaaDoor.Wsm Go.Proofs.YtaidboopcoaeeaaDoor.Rse Go.Proofs.YtaidboopcoaeeaaDoor.Rsh Go.Proofs.YtaidboopcoaeeaaDoor.Ltd
open Go.ChangeMaps (open_string shut_string)
set_option linter.unusedVariables false

theorem own : ownKnob Tryd.prog.godebug = none := by kernel_rfl
theorem laidOut : laidOutB Tryd.prog = true := by kernel_rfl
/-- The table's name, as the row lists it. -/
def tabName : String := Rows.lensFlatRow.named.headD ""
theorem gTab : Tryd.prog.globalNamed tabName = some 0 := by kernel_rfl
theorem gTabType : (Tryd.prog.globals[0]?).map (·.type) = some 95 := by kernel_rfl
theorem cellsT : Tryd.prog.cellsOf 95 = 19 := by kernel_rfl
theorem cellsE : Tryd.prog.cellsOf 3 = 1 := by kernel_rfl
theorem table {W : World} (h : laidMetH Tryd.prog Rows.lensFlatRow.laid W) : Lib.TabIs Tryd.prog W tabName .i64 [17, 18, 0, 1, 2, 3, 4, 5, 16, 6, 7, 8, 9, 10, 11, 12, 13, 14, 15] :=
  Lib.tabIs_of_head (rest := []) gTab gTabType Tryd.underlying95 Tryd.underlying3 cellsE cellsT h

/-- A slice of integers that came in: nil, or a row of cells, each fitting its kind. -/
def IsRow (k : IntKind) (w : World) (a : Option Addr) (len cap : Nat) (zs : List Int) : Prop :=
  (a = none ∧ len = 0 ∧ cap = 0 ∧ zs = []) ∨
  ∃ x, a = some x ∧ len ≤ cap ∧ cap ≤ maxLen ∧ zs.length = cap ∧ (∀ i, i < zs.length → w.cell? (x.add i) = some (.int k (zs.getD i 0))) ∧ ∀ n ∈ zs, (Lit.int k n).wf = true
theorem ordr_of {w : World} (tab : ∀ j, j < 19 → w.cell? ⟨0, j, none⟩ = some (.int .i64 (([17, 18, 0, 1, 2, 3, 4, 5, 16, 6, 7, 8, 9, 10, 11, 12, 13, 14, 15] : List Int).getD j 0))) : Ordr w := fun j hj => by
  rw [tab j hj]
  have : ∀ j, j < 19 → (([17, 18, 0, 1, 2, 3, 4, 5, 16, 6, 7, 8, 9, 10, 11, 12, 13, 14, 15] : List Int).getD j 0) = (ord j : Int) := by decide
  rw [this j hj]
set_option maxRecDepth 20000 in
set_option maxHeartbeats 4000000 in
theorem walk (a0 : Int) (a1 : Int) (w : World) (w0 : (Lit.int .u8 a0).wf = true) (w1 : (Lit.int .u8 a1).wf = true) (tab : ∀ j, j < 19 → w.cell? ⟨0, j, none⟩ = some (.int .i64 (([17, 18, 0, 1, 2, 3, 4, 5, 16, 6, 7, 8, 9, 10, 11, 12, 13, 14, 15] : List Int).getD j 0))) :
    Calls Tryd.prog 5 #[.int .u8 a0, .int .u8 a1] w fun e w' => e = .returned (.bool true) ∧ Below w.heap.size w w' := by
  obtain ⟨k0, k1⟩ := bounds_u8 w0
  obtain ⟨n0, n1⟩ := bounds_u8 w1
  have OD := hide (ordr_of tab)
  have hp := Ltd.Ordr.pos (unhide OD)
  clear w0 w1 tab
  obtain ⟨mo, rfl⟩ : ∃ mo : Nat, a1 = (mo : Int) := ⟨a1.toNat, by omega⟩
  obtain ⟨b, hb⟩ : ∃ b : Nat, a0 % 8 + 2 = (b : Int) := ⟨(a0 % 8 + 2).toNat, by omega⟩
  have b2 : 2 ≤ b := by omega
  have b9 : b ≤ 9 := by omega
  obtain ⟨Q, hQ, hQ2⟩ : ∃ Q : Nat, wrap64 ((2 : Int) ^ b) = (Q : Int) ∧ Q = 2 ^ b := ⟨2 ^ b, by
    have h1 : 2 ^ b ≤ 2 ^ 9 := Nat.pow_le_pow_right (by omega) b9
    have e : ((2 ^ b : Nat) : Int) = (2 : Int) ^ b := by simp
    rw [← e]
    generalize 2 ^ b = z at *
    simp [wrap64]
    omega, rfl⟩
  have hQ4 : 4 ≤ Q := by rw [hQ2]; exact Nat.pow_le_pow_right (n := 2) (i := 2) (by omega) b2
  have hQ9 : Q ≤ 512 := by rw [hQ2]; exact Nat.pow_le_pow_right (n := 2) (j := 9) (by omega) b9
  obtain ⟨n, hn⟩ : ∃ n, Q + mo = n := ⟨_, rfl⟩
  have en : (Q : Int) + (mo : Int) = (n : Int) := by omega
  have hn1 : 1 ≤ n := by omega
  have hn9 : n ≤ 800 := by omega
  have hQn : Q ≤ n := by omega
  have HQ2 := hide hQ2
  clear hQ2 hn
  have hmk := fun w => make_ints w n (by omega)
  go_enter Tryd.func5, Tryd.ntmps5
  go_wp2
  go_loopw [7] (fun i wr => ∃ j : Nat, j ≤ Q ∧ i = .int .i64 j ∧ Box wr w.heap.size 3 (nr (Lfl.flat b j) n).toArray ∧ Below w.heap.size w wr) (fun i _ => Q - (intOf i).toNat)
  case atStart => exact ⟨0, Nat.zero_le _, rfl, by rw [na_congr (f := Lfl.flat b 0) (g := fun _ => 0) (fun k _ => by unfold Lfl.flat; rw [if_neg (by omega)])]; exact Box.made w 3 _, (Below.refl _ w).alloc (Nat.le_refl _) _⟩
  case round =>
    obtain ⟨j, hj, rfl, bx, bel⟩ := hrel
    by_cases hlt : j < Q
    · have hlt' : (j : Int) < (Q : Int) := by omega
      have hjn : (j : Int) < (n : Int) := by omega
      have c1 := (bx.cell j).trans (na_at _ _ _ (by omega))
      have f1 := bx.free j
      have BX := hide (show Box (wr.setCell ⟨w.heap.size, j, none⟩ (.int .i64 (b : Int))) w.heap.size 3 (nr (Lfl.flat b (j + 1)) n).toArray from by
        have h1 := bx.set j (.int .i64 (b : Int))
        rw [na_set, ← na_congr (f := Lfl.flat b (j + 1)) (fun k _ => by
          unfold Lfl.flat
          by_cases e : k = j
          · rw [if_pos (by omega), if_pos e]
          · rw [if_neg e]
            by_cases e2 : k < j
            · rw [if_pos (by omega), if_pos e2]
            · rw [if_neg (by omega), if_neg e2])] at h1
        exact h1)
      have BE := hide (bel.setCell (p := ⟨w.heap.size, j, none⟩) (Nat.le_refl _) (.int .i64 (b : Int)))
      clear bx bel
      go_wp2
      go_roundw
      case rel => exact ⟨j + 1, by omega, by go_num, unhide BX, unhide BE⟩
      case measure => simp [intOf]; omega
    · obtain rfl : j = Q := by omega
      have hnl : ¬ (j : Int) < (j : Int) := by omega
      have BX := hide bx
      have BE := hide bel
      have hwl := bx.lt
      have OR := hide ((unhide OD).keep (Upd.ofBelow (S := fun _ => False) bel) (fun h => h))
      have CF := hide (show chk (fun k => (Lfl.flat b j k : Int)) n = 0 from by have := unhide HQ2; rw [this]; exact Lfl.chk_flat b n (by omega) (by omega) (by omega))
      have WF := hide (fun i (_ : i < n) => show Wsm.want (Lfl.flat b j) n i = Lfl.flat b j i from by have := unhide HQ2; rw [this]; exact Lfl.want_flat b n b2 (by omega) i)
      clear bx bel
      go_wp2_with fail
      refine (nw_new wr).mono ?_
      rintro e w1 ⟨gw, u1, rfl, x1⟩
      have BX1 := hide ((unhide BX).below x1.bel (unhide BX).lt)
      have O1 := hide ((unhide OR).below x1.bel)
      have W8 := hide (write_ok gw n u1 _ 0 0 (Lfl.flat b j) w1 x1.wri (by omega) (rw_box (unhide BX1)) hn1 (by omega) (unhide O1) (.inr (unhide CF)))
      have N1 := hide x1
      clear x1 BX OR
      go_wp2_with fail
      refine (unhide W8).mono ?_
      rintro e w3 ⟨u3, V3, N3, rfl, t3, tl3, nl3⟩
      have BX3 := hide ((unhide BX1).keep t3.turn.upd (fun h => by have := (unhide N1).ft _ h; omega))
      have O3 := hide ((unhide O1).keep t3.turn.upd (fun h => by have := (unhide N1).ft 0 h; omega))
      have N4 := hide (Tw.nw (unhide N1) t3)
      have e3 : 0 + V3 * 2 ^ 0 = V3 ∧ 0 + N3 = N3 := by constructor <;> simp
      have BY := hide (bytes_at gw u3 _ _ w3 t3.wri (by omega))
      rw [e3.1, e3.2] at BY N4
      have TL := hide (Wsm.Tld.congr tl3 (unhide WF))
      have L6 := Lfl.tld_len (unhide TL) 0 (by omega) (by unfold Lfl.flat; rw [if_pos (by omega)]; exact b2)
      clear t3 tl3 W8 e3 N1 O1 BX1
      go_wp2_with fail
      refine (unhide BY).mono ?_
      rintro e w4 ⟨bv, rfl, own4, b4⟩
      have SR4 := hide (src_of_own own4)
      have N5 := hide ((unhide N4).keep b4)
      have O4 := hide ((unhide O3).below b4)
      have BX4 := hide ((unhide BX3).below b4 (unhide BX3).lt)
      have Z4 := hide (unhide N5).bel.size
      clear own4 b4 BY N4 O3 BX3
      go_wp2_with fail
      refine (Bitin.new8 _ _ (byt V3) _ (unhide SR4) (by omega)).mono ?_
      rintro e w5 ⟨r, rfl, on5, b5⟩
      have N6 := hide ((unhide N5).keep b5)
      have O5 := hide ((unhide O4).below b5)
      have BX5 := hide ((unhide BX4).below b5 (unhide BX4).lt)
      have hr5 : w4.heap.size ≤ r ∧ r < w5.heap.size := by
        obtain ⟨_, _, _, h1, h2, _⟩ := on5
        exact ⟨h1, h2⟩
      have RD := hide (get_tld w4.heap.size w5.heap.size r ((N3 + 7) / 8) n N3 V3 (Lfl.flat b j) (byt V3) (byt_le V3) (by omega) w5 on5.at ⟨hr5.1, hr5.2, Nat.le_refl _⟩ (Ordr.pos (unhide O4)) (unhide O5) hn1 (by omega) (by rw [num_bits V3 N3 (unhide N5).wri.lt]) (by omega) (unhide TL) (unhide CF))
      have FT5 := hide (fun c (hc : Ft gw u3 c) => (unhide N5).wri.raw.lt c hc)
      have X4 := hide (unhide BX4).lt
      clear on5 b5 SR4 N5 O4 BX4
      go_wp2_with fail
      refine (unhide RD).mono ?_
      rintro e w6 ⟨b6, rfl, hb6, bx6, at6, u6⟩
      have BX6 := hide ((unhide BX5).keep u6 (by have := unhide X4; omega))
      have O6 := hide ((unhide O5).keep u6 (by have := unhide Z4; omega))
      have WR6 := hide ((unhide N6).wri.keep u6 (fun c hc e => by have := unhide FT5 c hc; omega))
      have B6 := hide (show Below w.heap.size w w6 from (unhide BE).trans (((unhide N6).bel.mono (unhide BE).size).trans (u6.below w.heap.size (by have := (unhide N6).bel.size; omega) (fun k hk => by have := unhide Z4; omega))))
      have GB6 := hide bx6
      clear bx6 at6 u6 RD N6 O5 BX5 BE
      go_wp2_with fail
      refine (ans6 w6 (unhide O6)).mono ?_
      rintro e w7 ⟨rfl, b7⟩
      have B7 := hide ((unhide B6).trans (b7.mono (unhide B6).size))
      have BX7 := hide ((unhide BX6).below b7 (unhide BX6).lt)
      have GB7 := hide ((unhide GB6).below b7 (unhide GB6).lt)
      have WR7 := hide ((unhide WR6).keep (Upd.ofBelow (S := fun _ => False) b7) (fun _ _ h => h))
      have II := hide (ints17 (.slice (some ⟨b6, 0, none⟩) n n) (.slice (some ⟨w.heap.size, 0, none⟩) n n) n n _ _ w7 (Rsf.ints_row (unhide GB7)) (Rsf.ints_row (unhide BX7)) (by omega))
      rw [show (decide (n = n) && sameB (fun k => (Lfl.flat b j k : Int)) (fun k => (Lfl.flat b j k : Int)) n) = true by rw [(sameB_iff _ _ n).2 (fun _ _ => rfl)]; simp] at II
      clear b7 B6 BX6 GB6 WR6 O6
      go_wp2_with fail
      refine (unhide II).mono ?_
      rintro e w8 ⟨rfl, q8, hq8⟩
      have B8 := hide (show Below w.heap.size w w8 from by rw [hq8]; exact ⟨(unhide B7).os, (unhide B7).tape, (unhide B7).output, (unhide B7).size, (unhide B7).block⟩)
      have WR8 := hide (show Wr w8 gw u3 V3 N3 from by rw [hq8]; exact (unhide WR7).keep ((Upd.refl (fun _ => False) w7).drewN q8) (fun _ _ h => h))
      clear hq8 II B7 WR7 BX7 GB7
      go_wp2_with fail
      refine (Wri.len_at gw u3 V3 N3 w8 (unhide WR8) (by omega)).mono ?_
      rintro e w9 ⟨rfl, q9, hq9⟩
      have B9 := hide (show Below w.heap.size w w9 from by rw [hq9]; exact ⟨(unhide B8).os, (unhide B8).tape, (unhide B8).output, (unhide B8).size, (unhide B8).block⟩)
      have h5 : (5 : Int) < (N3 : Int) := by omega
      clear hq9 B8 WR8
      go_wp2
      go_ret
      exact ⟨rfl, unhide B9⟩

set_option maxRecDepth 100000 in
theorem contract (H : Type) (enc : TypeId × Value → H) (W : World) (base : Nat) (args : Array Value) (ds gs : List (DataW H)) (before : List MemPlace)
    (hval : ∀ (j : Nat) t v, Tryd.f5.params[j]? = some t → args[j]? = some v → Value.okWide Tryd.prog W .any base t v)
    (hW : DataW.Whole enc Tryd.prog Tryd.f5.params.toList Rows.lensFlatSpec.vars false W args.toList ds gs before) (hL : laidMetH Tryd.prog Rows.lensFlatRow.laid W) :
    Calls Tryd.prog 5 args W fun e W' => ∃ v, e = .returned v ∧ Rows.lensFlatSpec.post enc Tryd.prog Tryd.f5 false true false false W args v W' := by
  have hW' := hW
  obtain ⟨p, q, hA0, hV, rfl, hfz, hnd⟩ := hW
  have hA : DataW.TrodAll enc Tryd.prog W 0 (fun _ => true) true Tryd.f5.params.toList args.toList ds p := hA0
  rw [Tryd.params5] at hA hval
  obtain ⟨v0, vs0, d0, ds0, p0, q0, hargs, rfl, rfl, h0, r0⟩ := trodAll_cons hA
  obtain ⟨v1, vs1, d1, ds1, p1, q1, rfl, rfl, rfl, h1, r1⟩ := trodAll_cons r0
  obtain ⟨rfl, rfl, rfl⟩ := trodAll_nil r1
  obtain rfl : args = #[v0, v1] := by cases args; simp_all
  obtain ⟨rfl, rfl⟩ := trodVars_none hV
  obtain ⟨a0, rfl, rfl, rfl, w0⟩ := open_int Tryd.underlying5 (hval 0 5 v0 rfl rfl) h0
  obtain ⟨a1, rfl, rfl, rfl, w1⟩ := open_int Tryd.underlying5 (hval 1 5 v1 rfl rfl) h1
  clear hA0
  refine (walk a0 a1 W w0 w1 (fun j hj => (table hL).cell gTab j hj)).mono fun e W' ⟨he, bel⟩ => ?_
  subst he
  exact ⟨_, rfl, _, _, _, [], _, [], hW', trodAll_mk1 (shut_bool Tryd.underlying4 _), (trodAll_cons_mk (shut_int Tryd.underlying5 w0) (trodAll_cons_mk (shut_int Tryd.underlying5 w1) trodAll_mk0)), rfl, bel.frame _, fun h => by cases h⟩

theorem laid_met (os : Os) : laidMet Tryd.prog Rows.lensFlatRow.laid (({ World.holding Tryd.prog os ⟨#[], #[], []⟩ with heap := (World.holding Tryd.prog os ⟨#[], #[], []⟩).heap.modify 0 fun | .cells _ t frozen => .cells #[.int .i64 17, .int .i64 18, .int .i64 0, .int .i64 1, .int .i64 2, .int .i64 3, .int .i64 4, .int .i64 5, .int .i64 16, .int .i64 6, .int .i64 7, .int .i64 8, .int .i64 9, .int .i64 10, .int .i64 11, .int .i64 12, .int .i64 13, .int .i64 14, .int .i64 15] t frozen | o => o } : World).forCall (fun _ _ => 0) ⟨#[], #[.int .u8 0, .int .u8 0], []⟩).memory :=
  laidMet_of_run' 8 (by kernel_rfl) (by kernel_rfl)
theorem reads (os : Os) {H : Type} (enc : TypeId × Value → H) : ∃ places, DataW.whole enc Tryd.prog (({ World.holding Tryd.prog os ⟨#[], #[], []⟩ with heap := (World.holding Tryd.prog os ⟨#[], #[], []⟩).heap.modify 0 fun | .cells _ t frozen => .cells #[.int .i64 17, .int .i64 18, .int .i64 0, .int .i64 1, .int .i64 2, .int .i64 3, .int .i64 4, .int .i64 5, .int .i64 16, .int .i64 6, .int .i64 7, .int .i64 8, .int .i64 9, .int .i64 10, .int .i64 11, .int .i64 12, .int .i64 13, .int .i64 14, .int .i64 15] t frozen | o => o } : World).forCall (fun _ _ => 0) ⟨#[], #[.int .u8 0, .int .u8 0], []⟩).memory Tryd.f5.params.toList Rows.lensFlatSpec.vars false (#[.int .u8 0, .int .u8 0] : Array Value).toList 8 = some ([.lit (.int .u8 0), .lit (.int .u8 0)], [], places) :=
  ⟨[], by kernel_rfl⟩
set_option maxRecDepth 100000 in
theorem lifted (os : Os) (started : os.Started) (H : Type) (enc : TypeId × Value → H) (F : Stop.Interp) :
    ReturnsInHanded {} Tryd.checked os 5 .any ((OpenSpec.ofChange Rows.lensFlatSpec).preRow enc Tryd.prog Tryd.f5 Rows.lensFlatRow.domain false Rows.lensFlatRow.laid) (((OpenSpec.ofChange Rows.lensFlatSpec).at F).post enc Tryd.prog Tryd.f5 false true false false) := by
  obtain ⟨places, hx⟩ := reads os enc
  refine returnsInHanded_of_row (C := Tryd.checked) (s := OpenSpec.ofChange Rows.lensFlatSpec) own started (by kernel_rfl) Tryd.func5
    (witness_row_at (enc := enc) (C := Tryd.checked) false ({ World.holding Tryd.prog os ⟨#[], #[], []⟩ with heap := (World.holding Tryd.prog os ⟨#[], #[], []⟩).heap.modify 0 fun | .cells _ t frozen => .cells #[.int .i64 17, .int .i64 18, .int .i64 0, .int .i64 1, .int .i64 2, .int .i64 3, .int .i64 4, .int .i64 5, .int .i64 16, .int .i64 6, .int .i64 7, .int .i64 8, .int .i64 9, .int .i64 10, .int .i64 11, .int .i64 12, .int .i64 13, .int .i64 14, .int .i64 15] t frozen | o => o } : World) #[.int .u8 0, .int .u8 0] rfl (by kernel_rfl) (by kernel_rfl) (by kernel_rfl)
      (OpenSpec.preRow_of_cond 8 hx (by kernel_rfl) (fun k hk => by cases hk) (by kernel_rfl) (laid_met os))) ?_
  intro W base args ds gs before hval hW _ _ _ hL _ _
  exact contract H enc W base args ds gs before hval hW hL
theorem said : Rows.LensFlatSaid :=
  OpenClaim.holds_of_cond 5 Tryd.f5 rfl rfl rfl rfl rfl rfl rfl ⟨rfl, rfl, rfl, rfl, rfl⟩ rfl rfl rfl rfl rfl (by kernel_rfl) Tryd.func5 (by kernel_rfl)
    (of_decide_eq_true (by kernel_rfl)) (by unfold Func.isWrapper; first | (rw [if_pos (by decide +kernel)]; kernel_rfl) | (rw [if_neg (by decide +kernel)]; exact ⟨rfl, rfl⟩))
    (fun os started H enc _ F => by rw [OpenClaim.pre_eq_preRow]; exact lifted os started H enc F)
theorem plain (f : FuncId) (fn : Func) (hf : Tryd.pinned.checked.prog.funcNamed Rows.lensFlatRow.func = some f) (hfn : Tryd.pinned.checked.prog.funcs[f]? = some fn) :
    false = Tryd.pinned.checked.prog.looks [] ∧ ∀ (j : Nat) t, fn.params[j]? = some t → Tryd.pinned.checked.prog.wantsStandIn t = false := by
  obtain rfl : f = 5 := Option.some.inj ((show Tryd.prog.funcNamed Rows.lensFlatRow.func = some 5 by kernel_rfl).symm.trans hf) |>.symm
  obtain rfl : fn = Tryd.f5 := (Option.some.inj (Tryd.func5.symm.trans hfn)).symm
  refine ⟨by kernel_rfl, fun j t ht => ?_⟩
  rw [Tryd.params5] at ht
  have hm : t ∈ [5, 5] := by simpa using Array.mem_of_getElem? ht
  have hall : ([5, 5].all fun u => !Tryd.prog.wantsStandIn u) = true := by kernel_rfl
  exact (show Tryd.prog.wantsStandIn t = false by simpa using List.all_eq_true.1 hall t hm)
/-- The statement. -/
theorem proved : Rows.LensFlatCardSaid :=
  Claim7.holds_tied_plain_at .later [] _ _ _ _ said (fun _ h => by cases h) (by kernel_rfl) (fun _ h => by cases h) lensFlat_row_tie rfl ⟨rfl, rfl⟩ (by kernel_rfl) rfl plain (by kernel_rfl)
#print axioms proved
end Go.Proofs.YtaidboopcoaeeaaDoor.lensFlat
