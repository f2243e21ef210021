/-
  What is proved: whatever the lengths and the bytes are, a tree is made or told not to be as the document says, and reads the bytes' bits as the document's own symbols till they run out; both slices read behind the call as before (Rows.TreeReadsSaid).
  Conditions: none.
-/
import Derived.Test.YtlejicikgmanfaaRows
import Derived.Test.YtlejicikgmanfaaSym
import Derived.Test.YtlejicikgmanfaaApp
import Derived.WalkKit
import Derived.ProofKit
import Derived.OpenShut
import Derived.ShutString
import Derived.ChangeOld
import Derived.Below
namespace Go.Proofs.Ytlejicikgmanfaa.treeReads
open Go.ChangeShapes Go.WideShapes Go.ChangeAt Go.RowKit
open Go.Proofs.Ytlejicikgmanfaa.Core Go.Proofs.Ytlejicikgmanfaa.Gnd Go.Proofs.Ytlejicikgmanfaa.Math Go.Proofs.Ytlejicikgmanfaa.Dec Go.Proofs.Ytlejicikgmanfaa.Tre Go.Proofs.Ytlejicikgmanfaa.Trr Go.Proofs.Ytlejicikgmanfaa.Ans Go.Proofs.Ytlejicikgmanfaa.Rck Go.Proofs.Ytlejicikgmanfaa.Rcd Go.Proofs.Ytlejicikgmanfaa.App Go.Proofs.Ytlejicikgmanfaa.Sym Go.Proofs.Ytlejicikgmanfaa.Bitin Go.Proofs.Ytlejicikgmanfaa.Eyes
open Go.Proofs.Ytlejicikgmanfaa.Spl (empty_own own_ints)
open Go.ChangeMaps (open_string shut_string)
set_option linter.unusedVariables false

theorem own : ownKnob Try.prog.godebug = none := by kernel_rfl
theorem laidOut : laidOutB Try.prog = true := by kernel_rfl

/-- WHAT THE WALK IS TOLD OF A SLICE OF INTEGERS THAT CAME IN: it is nil; or it leads to a row of 'cap' cells, the numbers 'zs' (the first 'len' are its elements, the rest its spare room), each fitting its kind. -/
def IsRow (k : IntKind) (w : World) (a : Option Addr) (len cap : Nat) (zs : List Int) : Prop :=
  (a = none ∧ len = 0 ∧ cap = 0 ∧ zs = []) ∨
  ∃ x, a = some x ∧ len ≤ cap ∧ cap ≤ maxLen ∧ zs.length = cap ∧ (∀ i, i < zs.length → w.cell? (x.add i) = some (.int k (zs.getD i 0))) ∧ ∀ n ∈ zs, (Lit.int k n).wf = true


set_option maxRecDepth 20000 in
set_option maxHeartbeats 1000000 in
theorem walk (a0 : Option Addr) (len0 cap0 : Nat) (z0 : List Int) (a1 : Option Addr) (len1 cap1 : Nat) (z1 : List Int) (w : World) (w0 : IsRow .i64 w a0 len0 cap0 z0) (w1 : IsRow .u8 w a1 len1 cap1 z1) :
    Calls Try.prog 3 #[.slice a0 len0 cap0, .slice a1 len1 cap1] w fun e w' => e = .returned (.bool true) ∧ Below w.heap.size w w' := by
  obtain ⟨src, _⟩ := ints_of_row w0
  have FROM := from_of_row w0
  generalize (fun k => z0.getD k 0) = c at src FROM
  have SRC := hide src
  have FRO := hide FROM
  obtain ⟨a, cap, e0, _⟩ := src
  cases e0
  obtain ⟨bc, hc, bsrc⟩ := src_of_row w1
  have BSRC := hide bsrc
  clear w0 w1 FROM bsrc
  by_cases hl : 2000 < len0
  · have hl' : decide ((2000 : Int) < (len0 : Int)) = true := decide_eq_true (by omega)
    go_enter Try.func3, Try.ntmps3
    go_wp2_with fail
    refine (ans7 w).mono ?_
    rintro e w4 ⟨rfl, bel4⟩
    have B4 := hide bel4
    clear bel4
    go_wp2
    go_ret
    exact ⟨rfl, unhide B4⟩
  have hl' : decide ((2000 : Int) < (len0 : Int)) = false := decide_eq_false (by omega)
  by_cases hb : 60 < len1
  · have hb' : decide ((60 : Int) < (len1 : Int)) = true := decide_eq_true (by omega)
    go_enter Try.func3, Try.ntmps3
    go_wp2_with fail
    refine (ans7 w).mono ?_
    rintro e w4 ⟨rfl, bel4⟩
    have B4 := hide bel4
    clear bel4
    go_wp2
    go_ret
    exact ⟨rfl, unhide B4⟩
  have hb' : decide ((60 : Int) < (len1 : Int)) = false := decide_eq_false (by omega)
  have z2 : w.heap.size ≤ w.heap.size := Nat.le_refl _
  by_cases hz : chk c len0 = 0
  · obtain ⟨hg, _, hkr⟩ := chk_zero hz
    have HG := hide hg
    have HK := hide hkr
    have HZ := hide hz
    clear hg hkr hz
    go_enter Try.func3, Try.ntmps3
    go_wp2_with (first | (at_builtin; refine app_both rfl (.tmp 24) (.tmp 25) rfl w.heap.size _ rfl (empty_own _ _ z2) _ len0 c rfl ((unhide FRO).keep ((Below.refl _ w).alloc z2 _)) (by omega) (by simp) ?_; intro v4 w4 own4 grow4; have bel4 : Below w.heap.size w w4 := ((Below.refl _ w).alloc z2 _).grown grow4 (by simp) (fun j hj => by cases hj; exact z2); have I4 := hide (own_ints own4); have B4 := hide bel4; clear own4 bel4 grow4) | fail)
    refine (tnew _ len0 c (by omega) (unhide HZ) _ (unhide I4)).mono ?_
    rintro e w5 ⟨g, rfl, tr5, b5⟩
    have TR5 := hide tr5
    have B5 := hide ((unhide B4).trans (b5.mono (unhide B4).size))
    have s4 := (unhide B4).size
    have s5 := b5.size
    clear b5 I4 tr5
    go_wp2_with fail
    refine (rcheck12 _ len0 c (by omega) _ ((unhide SRC).keep (unhide B5))).mono ?_
    rw [unhide HZ]
    rintro e w6 ⟨rfl, rfl⟩
    go_wp2_with fail
    refine (ans7 w6).mono ?_
    rintro e w7 ⟨rfl, b7⟩
    have s7 := b7.size
    have TR7 := hide ((unhide TR5).below b7)
    have B7 := hide ((unhide B5).trans (b7.mono (unhide B5).size))
    clear b7 B5 TR5
    go_wp2_with fail
    refine (rcodes13 _ len0 c (by omega) (unhide HG) (unhide HK) _ ((unhide SRC).keep (unhide B7))).mono ?_
    rintro e w8 ⟨cv, rfl, cod8, b8⟩
    have s8 := b8.size
    have TR8 := hide ((unhide TR7).below b8)
    have B8 := hide ((unhide B7).trans (b8.mono (unhide B7).size))
    have COD8 := hide cod8
    have SRC8 := hide ((unhide SRC).keep (unhide B8))
    have BS8 := hide ((unhide BSRC).keep (Upd.ofBelow (S := fun _ => False) (unhide B8)) (fun _ h => h.elim))
    obtain ⟨ca, ccap, rfl, _⟩ := cod8
    clear b8 B7 TR7
    go_wp2_with fail
    refine (new8 _ len1 bc _ (unhide BS8) (by omega)).mono ?_
    rintro e w9 ⟨r, rfl, on9, b9⟩
    have s9 := b9.size
    have AT9 := hide on9.at
    obtain ⟨hr1, hr2, _⟩ := on9.at
    have TR9 := hide ((unhide TR8).below b9)
    have BB9 := hide (show Below w8.heap.size w8 w9 from b9)
    have BS9 := hide ((unhide BS8).keep (Upd.ofBelow (S := fun _ => False) b9) (fun _ h => h.elim))
    clear on9 b9 TR8
    go_wp2_with fail
    refine (look9 _ len1 _ bc hc _ (unhide BS9) (by omega)).mono ?_
    rintro e w10 ⟨ey, rfl, see10, b10⟩
    have s10 := b10.size
    obtain ⟨he1, he2⟩ : w9.heap.size ≤ ey ∧ ey < w10.heap.size := by
      obtain ⟨_, _, _, x1, x2, _⟩ := see10
      exact ⟨x1, x2⟩
    have EY := hide (show Eyes w10 w9.heap.size w10.heap.size ey bc len1 (some 0) from see10)
    have TR10 := hide ((unhide TR9).below b10)
    have AT10 := hide ((unhide AT9).keep (Upd.ofBelow (S := fun _ => False) b10) (fun _ _ _ h => h))
    have BB10 := hide (show Below w8.heap.size w8 w10 from (unhide BB9).trans (b10.mono s9))
    clear see10 b10 TR9 AT9 BB9
    go_wp2
    go_loopw [10] (fun p wr => ∃ j i : Nat, j ≤ 100 ∧ p = .int .i64 j ∧ Tr wr w4.heap.size w6.heap.size g c len0 ∧ At wr w8.heap.size w9.heap.size r bc len1 (some i) ∧ Eyes wr w9.heap.size w10.heap.size ey bc len1 (some i) ∧ Below w8.heap.size w8 wr) (fun p _ => 100 - (intOf p).toNat)
    case atStart => exact ⟨0, 0, by omega, rfl, unhide TR10, unhide AT10, unhide EY, unhide BB10⟩
    case round =>
      obtain ⟨j, i, hj, rfl, tr, at', eye, bel⟩ := hrel
      clear TR10 AT10 EY BB10
      by_cases hlt : j < 100
      · have hlt' : (j : Int) < 100 := by omega
        obtain ⟨L, k, nx⟩ := next_ex (b := fun t => bt bc (i + t)) (unhide HZ) (fun t => bt_le bc _)
        have hkl := nx.lt.1
        have RD := hide (read13 _ _ g len0 c _ _ r len1 i L k bc hc (by omega) wr tr at' (.inr (by omega)) (by omega) nx)
        have SY := hide (fun w' h1 h2 => sym14 (.slice a0 len0 cap0) (.slice ca len0 ccap) len0 c (by omega) (unhide HZ) w9.heap.size w10.heap.size ey len1 i L k bc hc (by omega) w' h1 h2 nx)
        have TR := hide tr
        have EYE := hide eye
        have BEL := hide bel
        clear tr at' eye bel nx
        go_wp2_with fail
        refine (unhide RD).mono ?_
        rintro e w11 ⟨rfl, at11, u11⟩
        have TR11 := hide ((unhide TR).keep u11 (fun k _ h2 h3 => by omega))
        have EY11 := hide ((unhide EYE).keep u11 (fun k h1 _ h3 => by omega))
        have BEL11 := hide (show Below w8.heap.size w8 w11 from (unhide BEL).trans (u11.below _ (unhide BEL).size (fun k hk => by omega)))
        have AT11 := hide at11
        clear at11 u11 TR EYE BEL RD
        have BO : Hid (∀ w', Upd (fun k => k = ey) w11 w' → Both w' (.slice a0 len0 cap0) (.slice ca len0 ccap) len0 c) := fun w' u => by
          have bb : Below w8.heap.size w8 w' := (unhide BEL11).trans (u.below _ (unhide BEL11).size (fun k hk => by omega))
          exact ⟨(unhide SRC8).keep bb, (unhide COD8).keep bb⟩
        go_wp2_with fail
        refine (unhide SY w11 (unhide BO) (unhide EY11)).mono ?_
        rintro e w12 ⟨rfl, ey12, u12⟩
        have TR12 := hide ((unhide TR11).keep u12 (fun k _ h2 h3 => by omega))
        have AT12 := hide ((unhide AT11).keep u12 (fun k _ h2 h3 => by omega))
        have BEL12 := hide (show Below w8.heap.size w8 w12 from (unhide BEL11).trans (u12.below _ (unhide BEL11).size (fun k hk => by omega)))
        have EY12 := hide ey12
        clear ey12 u12 TR11 AT11 BEL11 EY11 SY BO
        by_cases hh : i + L ≤ 8 * len1
        · have e1 : outV len1 i L k = (k : Int) := by simp [outV, hh]
          have e2 : outE len1 i L = 0 := by simp [outE, hh]
          have e3 : outS len1 i L = some (i + L) := by simp [outS, hh]
          have e4 : symV len1 i L k = (k : Int) := by simp [symV, hh]
          rw [e3] at AT12 EY12
          rw [e1, e2, e4]
          clear e1 e2 e3 e4 hh
          go_wp2
          go_roundw
          case rel => exact ⟨j + 1, i + L, by omega, by go_num, unhide TR12, unhide AT12, unhide EY12, unhide BEL12⟩
          case measure => simp [intOf]; omega
        · have e1 : outV len1 i L k = 0 := by simp [outV, hh]
          have e2 : outE len1 i L = 2 := by simp [outE, hh]
          have e4 : symV len1 i L k = -1 := by simp [symV, hh]
          rw [e1, e2, e4]
          clear e1 e2 e4 hh
          go_wp2
          go_ret
          exact ⟨rfl, (unhide B8).trans ((unhide BEL12).mono (unhide B8).size)⟩
      · obtain rfl : j = 100 := by omega
        have BEL := hide bel
        have hnl : ¬ (100 : Int) < 100 := by omega
        clear tr at' eye bel hlt
        go_wp2
        go_ret
        exact ⟨rfl, (unhide B8).trans ((unhide BEL).mono (unhide B8).size)⟩
  · have HZ := hide hz
    have hzb : (chk c len0 != 0) = true := by simpa using hz
    have hze : (chk c len0 == 0) = false := by simpa using hz
    have RC := hide (fun w' h => rcheck12 _ len0 c (by omega) w' ((unhide SRC).keep h))
    have TN := hide (fun v w' h => tnew_no v len0 c (by omega) (unhide HZ) w' h)
    clear hz
    generalize chk c len0 = y at *
    go_enter Try.func3, Try.ntmps3
    go_wp2_with (first | (at_builtin; refine app_both rfl (.tmp 24) (.tmp 25) rfl w.heap.size _ rfl (empty_own _ _ z2) _ len0 c rfl ((unhide FRO).keep ((Below.refl _ w).alloc z2 _)) (by omega) (by simp) ?_; intro v4 w4 own4 grow4; have bel4 : Below w.heap.size w w4 := ((Below.refl _ w).alloc z2 _).grown grow4 (by simp) (fun j hj => by cases hj; exact z2); have I4 := hide (own_ints own4); have B4 := hide bel4; clear own4 bel4 grow4) | fail)
    refine (unhide TN _ _ (unhide I4)).mono ?_
    rintro e w5 ⟨rfl, b5⟩
    have B5 := hide ((unhide B4).trans (b5.mono (unhide B4).size))
    clear b5 B4 I4 TN
    go_wp2_with fail
    refine (unhide RC _ (unhide B5)).mono ?_
    rintro e w6 ⟨rfl, rfl⟩
    go_wp2_with fail
    refine (ans7 w6).mono ?_
    rintro e w7 ⟨rfl, b7⟩
    have B7 := hide ((unhide B5).trans (b7.mono (unhide B5).size))
    clear b7 B5
    go_wp2
    go_ret
    exact ⟨rfl, unhide B7⟩

/-! ### THE ROW's STEP: WRITTEN OUT: LEAVE IT -/
set_option maxRecDepth 100000 in
theorem lifted (os : Os) (started : os.Started) (H : Type) (enc : TypeId × Value → H) :
    ReturnsInHanded {} Try.checked os 3 .any (Rows.treeReadsSpec.pre6 enc Try.prog Try.f3 Rows.treeReadsRow.domain false) (Rows.treeReadsSpec.post enc Try.prog Try.f3 false true false false) := by
  refine returnsInHanded_of_change (C := Try.checked) own started (by kernel_rfl) Try.func3
    (ChangeSpec.witness6 (enc := enc) (C := Try.checked) false ⟨#[], #[.slice none 0 0, .slice none 0 0], []⟩ 8 (by kernel_rfl) (by kernel_rfl) (by kernel_rfl) (by kernel_rfl)) ?_
  intro W base args ds gs before hval0 hW hcnd _
  have hval : ∀ (j : Nat) t v, Try.f3.params[j]? = some t → args[j]? = some v → Value.okWide Try.prog W .any base t v := hval0
  have hW' := hW
  obtain ⟨p, q, hA0, hV, rfl, hfz, hnd⟩ := hW
  have hA : DataW.TrodAll enc Try.prog W 0 (fun _ => true) true Try.f3.params.toList args.toList ds p := hA0
  rw [Try.params3] at hA hval
  obtain ⟨v0, vs0, d0, ds0, p0, q0, hargs, rfl, rfl, h0, r0⟩ := trodAll_cons hA
  obtain ⟨v1, vs1, d1, ds1, p1, q1, rfl, rfl, rfl, h1, r1⟩ := trodAll_cons r0
  obtain ⟨rfl, rfl, rfl⟩ := trodAll_nil r1
  obtain rfl : args = #[v0, v1] := by cases args; simp_all
  obtain ⟨rfl, rfl⟩ := trodVars_none hV
  obtain ⟨a0, len0, cap0, rfl⟩ := okWide_slice Try.underlying22 (hval 0 22 v0 rfl rfl)
  have k0 := h0
  have lt0 : ∀ x ∈ p0, x.block < W.heap.size := by obtain ⟨m, hm⟩ := k0; exact DataW.trod_lt m _ _ _ hm
  obtain ⟨z0, w0⟩ : ∃ zs, IsRow .i64 W a0 len0 cap0 zs := by
    obtain ⟨fuel, hf⟩ := h0
    rcases open_ints Try.underlying22 Try.underlying3 (by kernel_rfl) hf with ⟨hcs, _⟩ | ⟨x, l, c, zs, hcs, _, hl, hm, hz, _, hcell, hwz⟩
    · simp [Value.cells] at hcs
      obtain ⟨rfl, rfl, rfl⟩ := hcs
      exact ⟨[], .inl ⟨rfl, rfl, rfl, rfl⟩⟩
    · simp [Value.cells] at hcs
      obtain ⟨rfl, rfl, rfl⟩ := hcs
      exact ⟨zs, .inr ⟨_, rfl, hl, hm, by simpa using hz, hcell, hwz⟩⟩
  obtain ⟨a1, len1, cap1, rfl⟩ := okWide_slice Try.underlying23 (hval 1 23 v1 rfl rfl)
  have k1 := h1
  have lt1 : ∀ x ∈ p1, x.block < W.heap.size := by obtain ⟨m, hm⟩ := k1; exact DataW.trod_lt m _ _ _ hm
  obtain ⟨z1, w1⟩ : ∃ zs, IsRow .u8 W a1 len1 cap1 zs := by
    obtain ⟨fuel, hf⟩ := h1
    rcases open_ints Try.underlying23 Try.underlying5 (by kernel_rfl) hf with ⟨hcs, _⟩ | ⟨x, l, c, zs, hcs, _, hl, hm, hz, _, hcell, hwz⟩
    · simp [Value.cells] at hcs
      obtain ⟨rfl, rfl, rfl⟩ := hcs
      exact ⟨[], .inl ⟨rfl, rfl, rfl, rfl⟩⟩
    · simp [Value.cells] at hcs
      obtain ⟨rfl, rfl, rfl⟩ := hcs
      exact ⟨zs, .inr ⟨_, rfl, hl, hm, by simpa using hz, hcell, hwz⟩⟩
  clear hA0 hval0
  refine (walk a0 len0 cap0 z0 a1 len1 cap1 z1 W w0 w1).mono fun e W' ⟨he, bel⟩ => ?_
  subst he
  exact ⟨_, rfl, _, _, _, [], _, [], hW', trodAll_mk1 (shut_bool Try.underlying4 _), (trodAll_cons_mk (Below.trod laidOut (by kernel_rfl) (of_decide_eq_true (by kernel_rfl)) k0 bel lt0) (trodAll_cons_mk (Below.trod laidOut (by kernel_rfl) (of_decide_eq_true (by kernel_rfl)) k1 bel lt1) trodAll_mk0)), rfl, bel.frame _, fun h => by cases h⟩

theorem over : Rows.treeReadsRow.holds Try.pinned (OpenSpec.ofChange Rows.treeReadsSpec) :=
  OpenClaim.holds_of_wide 3 Try.f3 rfl rfl rfl rfl rfl rfl rfl ⟨rfl, rfl, rfl, rfl, rfl⟩ rfl rfl rfl rfl rfl (by kernel_rfl) Try.func3 (by kernel_rfl)
    (of_decide_eq_true (by kernel_rfl)) (by unfold Func.isWrapper; first | (rw [if_pos (by decide +kernel)]; kernel_rfl) | (rw [if_neg (by decide +kernel)]; exact ⟨rfl, rfl⟩))
    (fun os started H enc _ => lifted os started H enc)

/-- ████ THE STATEMENT ████ -/
theorem proved : Rows.TreeReadsSaid := over
#print axioms proved
end Go.Proofs.Ytlejicikgmanfaa.treeReads
