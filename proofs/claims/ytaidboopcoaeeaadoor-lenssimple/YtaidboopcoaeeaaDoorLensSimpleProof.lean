/-
  What is proved: whatever two symbols, whether one or two, and however many lengths there are: told by hand they are read as lengths 1, or are refused where they may not be (Rows.LensSimpleCardSaid).
  Conditions: none (the card: the listed table is tied to the program's text).
-/
import Derived.Test.YtaidboopcoaeeaaDoorCards
import Derived.Test.YtaidboopcoaeeaaDoorTie
import Derived.Test.YtaidboopcoaeeaaDoorC18
import Derived.Test.YtaidboopcoaeeaaDoorC16
import Derived.WalkKit
import Derived.ProofKit
import Derived.OpenShut
import Derived.ShutString
import Derived.ChangeOld
import Derived.Below
import Derived.Deep.DeepHandedRow
import Derived.Lib.LaidTab
namespace Go.Proofs.YtaidboopcoaeeaaDoor.lensSimple
open Go.ChangeShapes Go.WideShapes Go.ChangeAt Go.RowKit
open Go.Proofs.YtaidboopcoaeeaaDoor.Core Go.Proofs.YtaidboopcoaeeaaDoor.Gnd Go.Proofs.YtaidboopcoaeeaaDoor.Math Go.Proofs.YtaidboopcoaeeaaDoor.Ord Go.Proofs.YtaidboopcoaeeaaDoor.Lsp Go.Proofs.YtaidboopcoaeeaaDoor.Lrh Go.Proofs.YtaidboopcoaeeaaDoor.Foot Go.Proofs.YtaidboopcoaeeaaDoor.Add Go.Proofs.YtaidboopcoaeeaaDoor.Byt Go.Proofs.YtaidboopcoaeeaaDoor.Bitin Go.Proofs.YtaidboopcoaeeaaDoor.Eyes Go.Proofs.YtaidboopcoaeeaaDoor.Wra Go.Proofs.YtaidboopcoaeeaaDoor.Rse Go.Proofs.YtaidboopcoaeeaaDoor.Rsh Go.Proofs.YtaidboopcoaeeaaDoor.Ltd Go.Proofs.YtaidboopcoaeeaaDoor.Lsa
open Go.ChangeMaps (open_string shut_string)
set_option linter.unusedVariables false

theorem own : ownKnob Tryd.prog.godebug = none := by kernel_rfl
theorem laidOut : laidOutB Tryd.prog = true := by kernel_rfl
/-- The table's name, as the row lists it. -/
def tabName : String := Rows.lensSimpleRow.named.headD ""
theorem gTab : Tryd.prog.globalNamed tabName = some 0 := by kernel_rfl
theorem gTabType : (Tryd.prog.globals[0]?).map (·.type) = some 95 := by kernel_rfl
theorem cellsT : Tryd.prog.cellsOf 95 = 19 := by kernel_rfl
theorem cellsE : Tryd.prog.cellsOf 3 = 1 := by kernel_rfl
theorem table {W : World} (h : laidMetH Tryd.prog Rows.lensSimpleRow.laid W) : Lib.TabIs Tryd.prog W tabName .i64 [17, 18, 0, 1, 2, 3, 4, 5, 16, 6, 7, 8, 9, 10, 11, 12, 13, 14, 15] :=
  Lib.tabIs_of_head (rest := []) gTab gTabType Tryd.underlying95 Tryd.underlying3 cellsE cellsT h

/-- A slice of integers that came in: nil, or a row of cells, each fitting its kind. -/
def IsRow (k : IntKind) (w : World) (a : Option Addr) (len cap : Nat) (zs : List Int) : Prop :=
  (a = none ∧ len = 0 ∧ cap = 0 ∧ zs = []) ∨
  ∃ x, a = some x ∧ len ≤ cap ∧ cap ≤ maxLen ∧ zs.length = cap ∧ (∀ i, i < zs.length → w.cell? (x.add i) = some (.int k (zs.getD i 0))) ∧ ∀ n ∈ zs, (Lit.int k n).wf = true
theorem ordr_of {w : World} (tab : ∀ j, j < 19 → w.cell? ⟨0, j, none⟩ = some (.int .i64 (([17, 18, 0, 1, 2, 3, 4, 5, 16, 6, 7, 8, 9, 10, 11, 12, 13, 14, 15] : List Int).getD j 0))) : Ordr w := fun j hj => by
  rw [tab j hj]
  have : ∀ j, j < 19 → (([17, 18, 0, 1, 2, 3, 4, 5, 16, 6, 7, 8, 9, 10, 11, 12, 13, 14, 15] : List Int).getD j 0) = (ord j : Int) := by decide
  rw [this j hj]
set_option maxRecDepth 20000 in
set_option maxHeartbeats 4000000 in
theorem walk (a0 : Int) (a1 : Int) (a2 : Bool) (a3 : Int) (w : World) (w0 : (Lit.int .u8 a0).wf = true) (w1 : (Lit.int .u8 a1).wf = true) (w3 : (Lit.int .u16 a3).wf = true) (tab : ∀ j, j < 19 → w.cell? ⟨0, j, none⟩ = some (.int .i64 (([17, 18, 0, 1, 2, 3, 4, 5, 16, 6, 7, 8, 9, 10, 11, 12, 13, 14, 15] : List Int).getD j 0))) :
    Calls Tryd.prog 4 #[.int .u8 a0, .int .u8 a1, .bool a2, .int .u16 a3] w fun e w' => e = .returned (.bool true) ∧ Below w.heap.size w w' := by
  obtain ⟨k0, k1⟩ := bounds_u8 w0
  obtain ⟨n0, n1⟩ := bounds_u8 w1
  obtain ⟨m0, m1⟩ := bounds_u16 w3
  have OD := hide (ordr_of tab)
  have hp := Ltd.Ordr.pos (unhide OD)
  clear w0 w1 w3 tab
  obtain ⟨a, rfl⟩ : ∃ a : Nat, a0 = (a : Int) := ⟨a0.toNat, by omega⟩
  obtain ⟨t, rfl⟩ : ∃ t : Nat, a1 = (t : Int) := ⟨a1.toNat, by omega⟩
  obtain ⟨n, hk⟩ : ∃ n : Nat, a3 % 600 + 1 = (n : Int) := ⟨(a3 % 600 + 1).toNat, by omega⟩
  have hn1 : 1 ≤ n := by omega
  have hn6 : n ≤ 600 := by omega
  have ha : a < 256 := by omega
  have ht : t < 256 := by omega
  cases a2 with
  | false =>
    go_enter Tryd.func4, Tryd.ntmps4
    go_wp2_with fail
    refine (nw_new w).mono ?_
    rintro e w1 ⟨gw, u1, rfl, x1⟩
    have N1 := hide x1
    clear x1
    go_wp2_with fail
    refine (nw_bits (unhide N1) 1 1 (by omega) (by omega) (by omega)).mono ?_
    rintro e w2 ⟨rfl, u2, x2⟩
    have N2 := hide x2
    clear x2 N1
    go_wp2_with fail
    refine (nw_bits (unhide N2) 0 1 (by omega) (by omega) (by omega)).mono ?_
    rintro e w3 ⟨rfl, u3, x3⟩
    have N3 := hide x3
    clear x3 N2
    go_wp2_with fail
    refine (nw_bits (unhide N3) 1 1 (by omega) (by omega) (by omega)).mono ?_
    rintro e w4 ⟨rfl, u4, x4⟩
    have N4 := hide x4
    clear x4 N3
    go_wp2_with fail
    refine (nw_bits (unhide N4) a 8 (by omega) (by omega) (by omega)).mono ?_
    rintro e w5 ⟨rfl, u5, x5⟩
    have N5 := hide x5
    clear x5 N4
    have NB := hide (nb_f a ha)
    obtain ⟨V, hV⟩ : ∃ V, 0 + 1 * 2 ^ 0 + 0 * 2 ^ (0 + 1) + 1 * 2 ^ (0 + 1 + 1) + a * 2 ^ (0 + 1 + 1 + 1) = V := ⟨_, rfl⟩
    obtain ⟨M, hM⟩ : ∃ M, 0 + 1 + 1 + 1 + 8 = M := ⟨_, rfl⟩
    have HD := hide (fun (h : a < n) => Wrb.hand_f1 n a 0 ha h)
    rw [hV, hM] at N5 HD
    rw [hV] at NB
    have hM' : M = 11 := by omega
    clear hV hM
    have BY := hide (bytes_at gw u5 V M w5 (unhide N5).wri (by omega))
    go_wp2_with fail
    refine (unhide BY).mono ?_
    rintro e v1 ⟨bv, rfl, own4, b4⟩
    have SR4 := hide (src_of_own own4)
    have Q1 := hide ((unhide N5).keep b4)
    have Z4 := hide (unhide Q1).bel.size
    clear own4 b4 BY N5
    go_wp2_with fail
    refine (Bitin.new8 _ _ (byt V) _ (unhide SR4) (by omega)).mono ?_
    rintro e v2 ⟨r, rfl, on5, b5⟩
    have Q2 := hide ((unhide Q1).keep b5)
    have hr5 : v1.heap.size ≤ r ∧ r < v2.heap.size := by
      obtain ⟨_, _, _, h1, h2, _⟩ := on5
      exact ⟨h1, h2⟩
    have ON := hide on5.at
    have LT := hide (unhide Q1).wri.lt
    clear on5 b5 SR4 Q1
    have EV := hide (Ltd.num_bits V M (unhide LT))
    by_cases good : a < n
    · have RD := hide (get_hand v1.heap.size v2.heap.size r ((M + 7) / 8) n 0 a 0 M false (byt V) (byt_le V) (by omega) v2 (unhide ON) ⟨hr5.1, hr5.2, Nat.le_refl _⟩ hn1 (by omega) (by rw [unhide EV]; exact unhide HD good) (by omega))
      go_wp2_with fail
      refine (unhide RD).mono ?_
      rintro e v3 ⟨b6, rfl, hb6, bx6, at6, u6⟩
      have BX := hide bx6
      have hb3 := bx6.lt
      have B3 := hide (show Below w.heap.size w v3 from (unhide Q2).bel.trans (u6.below w.heap.size (unhide Q2).bel.size (fun k hk => by have := unhide Z4; omega)))
      clear bx6 at6 u6 RD Q2 ON
      have g1 : decide (n ≤ a) = false := decide_eq_false (by omega)
      have g2 : decide ((n : Int) ≤ (a : Int)) = false := decide_eq_false (by omega)
      go_wp2
      go_loopw [13, 14] (fun s i wr => ∃ j : Nat, j ≤ n ∧ s = .int .i64 (sm (by_hand a 0 false) j) ∧ i = .int .i64 j ∧ wr = v3) (fun _ i _ => n - (intOf i).toNat)
      case atStart => exact ⟨0, Nat.zero_le _, rfl, rfl, rfl⟩
      case round =>
        obtain ⟨j, hj, rfl, rfl, hw⟩ := hrel
        obtain rfl : v3 = wr := hw.symm
        clear hw
        by_cases hlt : j < n
        · have hlt' : (j : Int) < (n : Int) := by omega
          have c1 := ((unhide BX).cell j).trans (na_at _ _ _ hlt)
          have hs := sm_le a 0 false j
          have hb1 : (by_hand a 0 false) j ≤ 1 := by unfold by_hand; split <;> omega
          have E := hide (show sm (by_hand a 0 false) (j + 1) = sm (by_hand a 0 false) j + (by_hand a 0 false) j from rfl)
          generalize (by_hand a 0 false) j = z at *
          generalize sm (by_hand a 0 false) j = s at *
          go_wp2
          go_roundw
          case rel => exact ⟨j + 1, by omega, by rw [unhide E]; go_num, by go_num, by first | rfl | trivial⟩
          case measure => simp [intOf]; omega
        · obtain rfl : j = n := by omega
          have hnl : ¬ (j : Int) < (j : Int) := by omega
          have hsum : sm (by_hand a 0 false) j = 1 := by rw [sm_f, if_pos good]
          rw [hsum]
          have haj : (a : Int) < (j : Int) := by omega
          have bha : (by_hand a 0 false) a = 1 := by unfold by_hand; rw [if_pos (.inl rfl)]
          have AN := hide (ans6 v3 ((unhide OD).keep (Upd.ofBelow (S := fun _ => False) (unhide B3)) (fun h => h)))
          go_wp2_with fail
          refine (unhide AN).mono ?_
          rintro e v4 ⟨rfl, b4⟩
          have B4 := hide ((unhide B3).trans (b4.mono (unhide B3).size))
          have c5 := (b4.cell (p := ⟨b6, a, none⟩) hb3).trans (((unhide BX).cell a).trans (na_at _ _ _ (by omega)))
          rw [bha] at c5
          clear b4 AN B3
          go_wp2
          go_ret
          exact ⟨rfl, unhide B4⟩
    · obtain ⟨q0, q1, q2, q3⟩ := unhide NB
      have RD := hide (get_one_bad v1.heap.size v2.heap.size r ((M + 7) / 8) n a  (byt V) (byt_le V) (by omega) v2 (unhide ON) ⟨hr5.1, hr5.2, Nat.le_refl _⟩ hn1 (by omega) (by rw [unhide EV]; exact q0) (by rw [unhide EV]; exact q1) (by rw [unhide EV]; exact q2) (by rw [unhide EV]; exact q3) (by omega) good)
      clear q0 q1 q2 q3
      go_wp2_with fail
      refine (unhide RD).mono ?_
      rintro e v3 ⟨rfl, u6⟩
      have B3 := hide (show Below w.heap.size w v3 from (unhide Q2).bel.trans (u6.below w.heap.size (unhide Q2).bel.size (fun k hk => by have := unhide Z4; omega)))
      clear u6 RD Q2 ON
      have AN := hide (ans6 v3 ((unhide OD).keep (Upd.ofBelow (S := fun _ => False) (unhide B3)) (fun h => h)))
      have g1 : decide (n ≤ a) = true := decide_eq_true (by omega)
      have g2 : decide ((n : Int) ≤ (a : Int)) = true := decide_eq_true (by omega)
      go_wp2_with fail
      refine (unhide AN).mono ?_
      rintro e v4 ⟨rfl, b4⟩
      have B4 := hide ((unhide B3).trans (b4.mono (unhide B3).size))
      clear b4 AN B3
      go_wp2
      go_ret
      exact ⟨rfl, unhide B4⟩
  | true =>
    go_enter Tryd.func4, Tryd.ntmps4
    go_wp2_with fail
    refine (nw_new w).mono ?_
    rintro e w1 ⟨gw, u1, rfl, x1⟩
    have N1 := hide x1
    clear x1
    go_wp2_with fail
    refine (nw_bits (unhide N1) 1 1 (by omega) (by omega) (by omega)).mono ?_
    rintro e w2 ⟨rfl, u2, x2⟩
    have N2 := hide x2
    clear x2 N1
    go_wp2_with fail
    refine (nw_bits (unhide N2) 1 1 (by omega) (by omega) (by omega)).mono ?_
    rintro e w3 ⟨rfl, u3, x3⟩
    have N3 := hide x3
    clear x3 N2
    go_wp2_with fail
    refine (nw_bits (unhide N3) 1 1 (by omega) (by omega) (by omega)).mono ?_
    rintro e w4 ⟨rfl, u4, x4⟩
    have N4 := hide x4
    clear x4 N3
    go_wp2_with fail
    refine (nw_bits (unhide N4) a 8 (by omega) (by omega) (by omega)).mono ?_
    rintro e w5 ⟨rfl, u5, x5⟩
    have N5 := hide x5
    clear x5 N4
    go_wp2_with fail
    refine (nw_bits (unhide N5) t 8 (by omega) (by omega) (by omega)).mono ?_
    rintro e w6 ⟨rfl, u6, x6⟩
    have N6 := hide x6
    clear x6 N5
    have NB := hide (nb_t a t ha ht)
    obtain ⟨V, hV⟩ : ∃ V, 0 + 1 * 2 ^ 0 + 1 * 2 ^ (0 + 1) + 1 * 2 ^ (0 + 1 + 1) + a * 2 ^ (0 + 1 + 1 + 1) + t * 2 ^ (0 + 1 + 1 + 1 + 8) = V := ⟨_, rfl⟩
    obtain ⟨M, hM⟩ : ∃ M, 0 + 1 + 1 + 1 + 8 + 8 = M := ⟨_, rfl⟩
    have HD := hide (fun (h : a < n ∧ t < n ∧ a ≠ t) => Wrb.hand_t1 n a t ha h.1 ht h.2.1 h.2.2)
    rw [hV, hM] at N6 HD
    rw [hV] at NB
    have hM' : M = 19 := by omega
    clear hV hM
    have BY := hide (bytes_at gw u6 V M w6 (unhide N6).wri (by omega))
    go_wp2_with fail
    refine (unhide BY).mono ?_
    rintro e v1 ⟨bv, rfl, own4, b4⟩
    have SR4 := hide (src_of_own own4)
    have Q1 := hide ((unhide N6).keep b4)
    have Z4 := hide (unhide Q1).bel.size
    clear own4 b4 BY N6
    go_wp2_with fail
    refine (Bitin.new8 _ _ (byt V) _ (unhide SR4) (by omega)).mono ?_
    rintro e v2 ⟨r, rfl, on5, b5⟩
    have Q2 := hide ((unhide Q1).keep b5)
    have hr5 : v1.heap.size ≤ r ∧ r < v2.heap.size := by
      obtain ⟨_, _, _, h1, h2, _⟩ := on5
      exact ⟨h1, h2⟩
    have ON := hide on5.at
    have LT := hide (unhide Q1).wri.lt
    clear on5 b5 SR4 Q1
    have EV := hide (Ltd.num_bits V M (unhide LT))
    by_cases good : a < n ∧ t < n ∧ a ≠ t
    · have RD := hide (get_hand v1.heap.size v2.heap.size r ((M + 7) / 8) n 0 a t M true (byt V) (byt_le V) (by omega) v2 (unhide ON) ⟨hr5.1, hr5.2, Nat.le_refl _⟩ hn1 (by omega) (by rw [unhide EV]; exact unhide HD good) (by omega))
      go_wp2_with fail
      refine (unhide RD).mono ?_
      rintro e v3 ⟨b6, rfl, hb6, bx6, at6, u6⟩
      have BX := hide bx6
      have hb3 := bx6.lt
      have B3 := hide (show Below w.heap.size w v3 from (unhide Q2).bel.trans (u6.below w.heap.size (unhide Q2).bel.size (fun k hk => by have := unhide Z4; omega)))
      clear bx6 at6 u6 RD Q2 ON
      have g1 : decide (n ≤ a) = false := decide_eq_false (by omega)
      have g2 : decide ((n : Int) ≤ (a : Int)) = false := decide_eq_false (by omega)
      have g3 : decide (n ≤ t) = false := decide_eq_false (by omega)
      have g4 : decide ((n : Int) ≤ (t : Int)) = false := decide_eq_false (by omega)
      have g5 : ((a : Int) == (t : Int)) = false := by simp; omega
      go_wp2
      go_loopw [13, 14] (fun s i wr => ∃ j : Nat, j ≤ n ∧ s = .int .i64 (sm (by_hand a t true) j) ∧ i = .int .i64 j ∧ wr = v3) (fun _ i _ => n - (intOf i).toNat)
      case atStart => exact ⟨0, Nat.zero_le _, rfl, rfl, rfl⟩
      case round =>
        obtain ⟨j, hj, rfl, rfl, hw⟩ := hrel
        obtain rfl : v3 = wr := hw.symm
        clear hw
        by_cases hlt : j < n
        · have hlt' : (j : Int) < (n : Int) := by omega
          have c1 := ((unhide BX).cell j).trans (na_at _ _ _ hlt)
          have hs := sm_le a t true j
          have hb1 : (by_hand a t true) j ≤ 1 := by unfold by_hand; split <;> omega
          have E := hide (show sm (by_hand a t true) (j + 1) = sm (by_hand a t true) j + (by_hand a t true) j from rfl)
          generalize (by_hand a t true) j = z at *
          generalize sm (by_hand a t true) j = s at *
          go_wp2
          go_roundw
          case rel => exact ⟨j + 1, by omega, by rw [unhide E]; go_num, by go_num, by first | rfl | trivial⟩
          case measure => simp [intOf]; omega
        · obtain rfl : j = n := by omega
          have hnl : ¬ (j : Int) < (j : Int) := by omega
          have hsum : sm (by_hand a t true) j = 2 := by rw [sm_t a t good.2.2, if_pos good.1, if_pos good.2.1]
          rw [hsum]
          have haj : (a : Int) < (j : Int) := by omega
          have bha : (by_hand a t true) a = 1 := by unfold by_hand; rw [if_pos (.inl rfl)]
          have htj : (t : Int) < (j : Int) := by omega
          have bht : (by_hand a t true) t = 1 := by unfold by_hand; rw [if_pos (.inr ⟨rfl, rfl⟩)]
          have AN := hide (ans6 v3 ((unhide OD).keep (Upd.ofBelow (S := fun _ => False) (unhide B3)) (fun h => h)))
          go_wp2_with fail
          refine (unhide AN).mono ?_
          rintro e v4 ⟨rfl, b4⟩
          have B4 := hide ((unhide B3).trans (b4.mono (unhide B3).size))
          have c5 := (b4.cell (p := ⟨b6, a, none⟩) hb3).trans (((unhide BX).cell a).trans (na_at _ _ _ (by omega)))
          rw [bha] at c5
          have c6 := (b4.cell (p := ⟨b6, t, none⟩) hb3).trans (((unhide BX).cell t).trans (na_at _ _ _ (by omega)))
          rw [bht] at c6
          clear b4 AN B3
          go_wp2
          go_ret
          exact ⟨rfl, unhide B4⟩
    · obtain ⟨q0, q1, q2, q3, q4⟩ := unhide NB
      have RD := hide (get_two_bad v1.heap.size v2.heap.size r ((M + 7) / 8) n a t (byt V) (byt_le V) (by omega) v2 (unhide ON) ⟨hr5.1, hr5.2, Nat.le_refl _⟩ hn1 (by omega) (by rw [unhide EV]; exact q0) (by rw [unhide EV]; exact q1) (by rw [unhide EV]; exact q2) (by rw [unhide EV]; exact q3) (by rw [unhide EV]; exact q4) (by omega) good)
      clear q0 q1 q2 q3 q4
      go_wp2_with fail
      refine (unhide RD).mono ?_
      rintro e v3 ⟨rfl, u6⟩
      have B3 := hide (show Below w.heap.size w v3 from (unhide Q2).bel.trans (u6.below w.heap.size (unhide Q2).bel.size (fun k hk => by have := unhide Z4; omega)))
      clear u6 RD Q2 ON
      have AN := hide (ans6 v3 ((unhide OD).keep (Upd.ofBelow (S := fun _ => False) (unhide B3)) (fun h => h)))
      by_cases ga : n ≤ a
      · have g1 : decide (n ≤ a) = true := decide_eq_true ga
        have g2 : decide ((n : Int) ≤ (a : Int)) = true := decide_eq_true (by omega)
        go_wp2_with fail
        refine (unhide AN).mono ?_
        rintro e v4 ⟨rfl, b4⟩
        have B4 := hide ((unhide B3).trans (b4.mono (unhide B3).size))
        clear b4 AN B3
        go_wp2
        go_ret
        exact ⟨rfl, unhide B4⟩
      have g1 : decide (n ≤ a) = false := decide_eq_false ga
      have g2 : decide ((n : Int) ≤ (a : Int)) = false := decide_eq_false (by omega)
      by_cases gt : n ≤ t
      · have g3 : decide (n ≤ t) = true := decide_eq_true gt
        have g4 : decide ((n : Int) ≤ (t : Int)) = true := decide_eq_true (by omega)
        go_wp2_with fail
        refine (unhide AN).mono ?_
        rintro e v4 ⟨rfl, b4⟩
        have B4 := hide ((unhide B3).trans (b4.mono (unhide B3).size))
        clear b4 AN B3
        go_wp2
        go_ret
        exact ⟨rfl, unhide B4⟩
      have g3 : decide (n ≤ t) = false := decide_eq_false gt
      have g4 : decide ((n : Int) ≤ (t : Int)) = false := decide_eq_false (by omega)
      have g5 : ((a : Int) == (t : Int)) = true := by simp; omega
      go_wp2_with fail
      refine (unhide AN).mono ?_
      rintro e v4 ⟨rfl, b4⟩
      have B4 := hide ((unhide B3).trans (b4.mono (unhide B3).size))
      clear b4 AN B3
      go_wp2
      go_ret
      exact ⟨rfl, unhide B4⟩

set_option maxRecDepth 100000 in
theorem contract (H : Type) (enc : TypeId × Value → H) (W : World) (base : Nat) (args : Array Value) (ds gs : List (DataW H)) (before : List MemPlace)
    (hval : ∀ (j : Nat) t v, Tryd.f4.params[j]? = some t → args[j]? = some v → Value.okWide Tryd.prog W .any base t v)
    (hW : DataW.Whole enc Tryd.prog Tryd.f4.params.toList Rows.lensSimpleSpec.vars false W args.toList ds gs before) (hL : laidMetH Tryd.prog Rows.lensSimpleRow.laid W) :
    Calls Tryd.prog 4 args W fun e W' => ∃ v, e = .returned v ∧ Rows.lensSimpleSpec.post enc Tryd.prog Tryd.f4 false true false false W args v W' := by
  have hW' := hW
  obtain ⟨p, q, hA0, hV, rfl, hfz, hnd⟩ := hW
  have hA : DataW.TrodAll enc Tryd.prog W 0 (fun _ => true) true Tryd.f4.params.toList args.toList ds p := hA0
  rw [Tryd.params4] at hA hval
  obtain ⟨v0, vs0, d0, ds0, p0, q0, hargs, rfl, rfl, h0, r0⟩ := trodAll_cons hA
  obtain ⟨v1, vs1, d1, ds1, p1, q1, rfl, rfl, rfl, h1, r1⟩ := trodAll_cons r0
  obtain ⟨v2, vs2, d2, ds2, p2, q2, rfl, rfl, rfl, h2, r2⟩ := trodAll_cons r1
  obtain ⟨v3, vs3, d3, ds3, p3, q3, rfl, rfl, rfl, h3, r3⟩ := trodAll_cons r2
  obtain ⟨rfl, rfl, rfl⟩ := trodAll_nil r3
  obtain rfl : args = #[v0, v1, v2, v3] := by cases args; simp_all
  obtain ⟨rfl, rfl⟩ := trodVars_none hV
  obtain ⟨a0, rfl, rfl, rfl, w0⟩ := open_int Tryd.underlying5 (hval 0 5 v0 rfl rfl) h0
  obtain ⟨a1, rfl, rfl, rfl, w1⟩ := open_int Tryd.underlying5 (hval 1 5 v1 rfl rfl) h1
  obtain ⟨a2, rfl, rfl, rfl⟩ := open_bool Tryd.underlying4 (hval 2 4 v2 rfl rfl) h2
  obtain ⟨a3, rfl, rfl, rfl, w3⟩ := open_int Tryd.underlying42 (hval 3 42 v3 rfl rfl) h3
  clear hA0
  refine (walk a0 a1 a2 a3 W w0 w1 w3 (fun j hj => (table hL).cell gTab j hj)).mono fun e W' ⟨he, bel⟩ => ?_
  subst he
  exact ⟨_, rfl, _, _, _, [], _, [], hW', trodAll_mk1 (shut_bool Tryd.underlying4 _), (trodAll_cons_mk (shut_int Tryd.underlying5 w0) (trodAll_cons_mk (shut_int Tryd.underlying5 w1) (trodAll_cons_mk (shut_bool Tryd.underlying4 _) (trodAll_cons_mk (shut_int Tryd.underlying42 w3) trodAll_mk0)))), rfl, bel.frame _, fun h => by cases h⟩

theorem laid_met (os : Os) : laidMet Tryd.prog Rows.lensSimpleRow.laid (({ World.holding Tryd.prog os ⟨#[], #[], []⟩ with heap := (World.holding Tryd.prog os ⟨#[], #[], []⟩).heap.modify 0 fun | .cells _ t frozen => .cells #[.int .i64 17, .int .i64 18, .int .i64 0, .int .i64 1, .int .i64 2, .int .i64 3, .int .i64 4, .int .i64 5, .int .i64 16, .int .i64 6, .int .i64 7, .int .i64 8, .int .i64 9, .int .i64 10, .int .i64 11, .int .i64 12, .int .i64 13, .int .i64 14, .int .i64 15] t frozen | o => o } : World).forCall (fun _ _ => 0) ⟨#[], #[.int .u8 0, .int .u8 0, .bool false, .int .u16 0], []⟩).memory :=
  laidMet_of_run' 8 (by kernel_rfl) (by kernel_rfl)
theorem reads (os : Os) {H : Type} (enc : TypeId × Value → H) : ∃ places, DataW.whole enc Tryd.prog (({ World.holding Tryd.prog os ⟨#[], #[], []⟩ with heap := (World.holding Tryd.prog os ⟨#[], #[], []⟩).heap.modify 0 fun | .cells _ t frozen => .cells #[.int .i64 17, .int .i64 18, .int .i64 0, .int .i64 1, .int .i64 2, .int .i64 3, .int .i64 4, .int .i64 5, .int .i64 16, .int .i64 6, .int .i64 7, .int .i64 8, .int .i64 9, .int .i64 10, .int .i64 11, .int .i64 12, .int .i64 13, .int .i64 14, .int .i64 15] t frozen | o => o } : World).forCall (fun _ _ => 0) ⟨#[], #[.int .u8 0, .int .u8 0, .bool false, .int .u16 0], []⟩).memory Tryd.f4.params.toList Rows.lensSimpleSpec.vars false (#[.int .u8 0, .int .u8 0, .bool false, .int .u16 0] : Array Value).toList 8 = some ([.lit (.int .u8 0), .lit (.int .u8 0), .lit (.bool false), .lit (.int .u16 0)], [], places) :=
  ⟨[], by kernel_rfl⟩
set_option maxRecDepth 100000 in
theorem lifted (os : Os) (started : os.Started) (H : Type) (enc : TypeId × Value → H) (F : Stop.Interp) :
    ReturnsInHanded {} Tryd.checked os 4 .any ((OpenSpec.ofChange Rows.lensSimpleSpec).preRow enc Tryd.prog Tryd.f4 Rows.lensSimpleRow.domain false Rows.lensSimpleRow.laid) (((OpenSpec.ofChange Rows.lensSimpleSpec).at F).post enc Tryd.prog Tryd.f4 false true false false) := by
  obtain ⟨places, hx⟩ := reads os enc
  refine returnsInHanded_of_row (C := Tryd.checked) (s := OpenSpec.ofChange Rows.lensSimpleSpec) own started (by kernel_rfl) Tryd.func4
    (witness_row_at (enc := enc) (C := Tryd.checked) false ({ World.holding Tryd.prog os ⟨#[], #[], []⟩ with heap := (World.holding Tryd.prog os ⟨#[], #[], []⟩).heap.modify 0 fun | .cells _ t frozen => .cells #[.int .i64 17, .int .i64 18, .int .i64 0, .int .i64 1, .int .i64 2, .int .i64 3, .int .i64 4, .int .i64 5, .int .i64 16, .int .i64 6, .int .i64 7, .int .i64 8, .int .i64 9, .int .i64 10, .int .i64 11, .int .i64 12, .int .i64 13, .int .i64 14, .int .i64 15] t frozen | o => o } : World) #[.int .u8 0, .int .u8 0, .bool false, .int .u16 0] rfl (by kernel_rfl) (by kernel_rfl) (by kernel_rfl)
      (OpenSpec.preRow_of_cond 8 hx (by kernel_rfl) (fun k hk => by cases hk) (by kernel_rfl) (laid_met os))) ?_
  intro W base args ds gs before hval hW _ _ _ hL _ _
  exact contract H enc W base args ds gs before hval hW hL
theorem said : Rows.LensSimpleSaid :=
  OpenClaim.holds_of_cond 4 Tryd.f4 rfl rfl rfl rfl rfl rfl rfl ⟨rfl, rfl, rfl, rfl, rfl⟩ rfl rfl rfl rfl rfl (by kernel_rfl) Tryd.func4 (by kernel_rfl)
    (of_decide_eq_true (by kernel_rfl)) (by unfold Func.isWrapper; first | (rw [if_pos (by decide +kernel)]; kernel_rfl) | (rw [if_neg (by decide +kernel)]; exact ⟨rfl, rfl⟩))
    (fun os started H enc _ F => by rw [OpenClaim.pre_eq_preRow]; exact lifted os started H enc F)
theorem plain (f : FuncId) (fn : Func) (hf : Tryd.pinned.checked.prog.funcNamed Rows.lensSimpleRow.func = some f) (hfn : Tryd.pinned.checked.prog.funcs[f]? = some fn) :
    false = Tryd.pinned.checked.prog.looks [] ∧ ∀ (j : Nat) t, fn.params[j]? = some t → Tryd.pinned.checked.prog.wantsStandIn t = false := by
  obtain rfl : f = 4 := Option.some.inj ((show Tryd.prog.funcNamed Rows.lensSimpleRow.func = some 4 by kernel_rfl).symm.trans hf) |>.symm
  obtain rfl : fn = Tryd.f4 := (Option.some.inj (Tryd.func4.symm.trans hfn)).symm
  refine ⟨by kernel_rfl, fun j t ht => ?_⟩
  rw [Tryd.params4] at ht
  have hm : t ∈ [5, 5, 4, 42] := by simpa using Array.mem_of_getElem? ht
  have hall : ([5, 5, 4, 42].all fun u => !Tryd.prog.wantsStandIn u) = true := by kernel_rfl
  exact (show Tryd.prog.wantsStandIn t = false by simpa using List.all_eq_true.1 hall t hm)
/-- The statement. -/
theorem proved : Rows.LensSimpleCardSaid :=
  Claim7.holds_tied_plain_at .later [] _ _ _ _ said (fun _ h => by cases h) (by kernel_rfl) (fun _ h => by cases h) lensSimple_row_tie rfl ⟨rfl, rfl⟩ (by kernel_rfl) rfl plain (by kernel_rfl)
#print axioms proved
end Go.Proofs.YtaidboopcoaeeaaDoor.lensSimple
