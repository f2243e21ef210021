/-
  What is proved: The lengths that size.Best answers of any counts are complete, none above most, some for each that comes, and none cost less.
  Conditions: none.
-/
import Derived.Test.YtcfnbbelbadmkaaRows
import Derived.Test.YtcfnbbelbadmkaaOrd
import Derived.Test.YtcfnbbelbadmkaaCpy
import Derived.WalkKit
import Derived.ProofKit
import Derived.OpenShut
import Derived.ShutString
import Derived.ChangeOld
import Derived.Below
namespace Go.Proofs.Ytcfnbbelbadmkaa.sizeBest
open Go.ChangeShapes Go.WideShapes Go.ChangeAt Go.RowKit
open Go.Proofs.Ytcfnbbelbadmkaa.Core Go.Proofs.Ytcfnbbelbadmkaa.Gnd Go.Proofs.Ytcfnbbelbadmkaa.Math Go.Proofs.Ytcfnbbelbadmkaa.Ris Go.Proofs.Ytcfnbbelbadmkaa.Itm Go.Proofs.Ytcfnbbelbadmkaa.Spr Go.Proofs.Ytcfnbbelbadmkaa.Bst Go.Proofs.Ytcfnbbelbadmkaa.Par Go.Proofs.Ytcfnbbelbadmkaa.Fin Go.Proofs.Ytcfnbbelbadmkaa.Use Go.Proofs.Ytcfnbbelbadmkaa.Gth Go.Proofs.Ytcfnbbelbadmkaa.Ans Go.Proofs.Ytcfnbbelbadmkaa.Ord Go.Proofs.Ytcfnbbelbadmkaa.Wid Go.Proofs.Ytcfnbbelbadmkaa.Totl Go.Proofs.Ytcfnbbelbadmkaa.Mrg Go.Proofs.Ytcfnbbelbadmkaa.Bad Go.Proofs.Ytcfnbbelbadmkaa.Lst Go.Proofs.Ytcfnbbelbadmkaa.Cpy
open Go.ChangeMaps (open_string shut_string)
set_option linter.unusedVariables false

theorem own : ownKnob Try.prog.godebug = none := by kernel_rfl
theorem laidOut : laidOutB Try.prog = true := by kernel_rfl

/-- WHAT THE WALK IS TOLD OF A SLICE OF INTEGERS THAT CAME IN: it is nil; or it leads to a row of 'cap' cells, the numbers 'zs' (the first 'len' are its elements, the rest its spare room), each fitting its kind. -/
def IsRow (k : IntKind) (w : World) (a : Option Addr) (len cap : Nat) (zs : List Int) : Prop :=
  (a = none ∧ len = 0 ∧ cap = 0 ∧ zs = []) ∨
  ∃ x, a = some x ∧ len ≤ cap ∧ cap ≤ maxLen ∧ zs.length = cap ∧ (∀ i, i < zs.length → w.cell? (x.add i) = some (.int k (zs.getD i 0))) ∧ ∀ n ∈ zs, (Lit.int k n).wf = true


theorem empty_own (w : World) (base : Nat) (h : base ≤ w.heap.size) : (w.alloc (.cells #[] 3)).ownsRow base 3 1 (.slice (some ⟨w.heap.size, 0, none⟩) 0 0) 0 [] :=
  ⟨rfl, .inr ⟨w.heap.size, 0, #[], rfl, h, Box.made w 3 #[], Nat.le_refl _, Nat.zero_le _, rfl, rfl⟩⟩
/-- What size.Best answers, one way or the other. -/
structure Res (c : Nat → Int) (len m : Nat) (w : World) (e : Ending) (w' : World) : Prop where
  ex : ∃ ua ul uc er, e = .returned (.tuple #[.slice ua ul uc, .int .i64 er]) ∧ Below w.heap.size w w' ∧
    ((ua = none ∧ ul = 0 ∧ uc = 0 ∧ er = 1 ∧ (¬ Okc c len ∨ 2 ^ m < (pos c len).length)) ∨
      (er = 0 ∧ ul = len ∧ Okc c len ∧ (pos c len).length ≤ 2 ^ m ∧ ∃ s M, Ints .i64 w' (.slice ua ul uc) len (fun i => ((M i : Nat) : Int)) ∧ Lns c len m s M))
theorem res9 (v : Value) (len m : Nat) (c : Nat → Int) (w : World) (src : Ints .i64 w v len c) (hl : len ≤ 4096) (hm : 1 ≤ m) (hm2 : m ≤ 15) :
    Calls Try.prog 9 #[v, .int .i64 m] w fun e w' => Res c len m w e w' := by
  by_cases bad : ¬ Okc c len ∨ 2 ^ m < (pos c len).length
  · exact (bst_not v len m c w src hl hm hm2 bad).mono fun e w' ⟨h, b⟩ => ⟨_, _, _, _, h, b, .inl ⟨rfl, rfl, rfl, rfl, bad⟩⟩
  · have h1 : Okc c len := Classical.byContradiction fun h => bad (.inl h)
    have h2 : (pos c len).length ≤ 2 ^ m := Nat.le_of_not_lt fun h => bad (.inr h)
    refine (bst_ok par24 v len m c w src hl h1 hm hm2 h2).mono fun e w' ⟨⟨u, s, M, h, iu, ln, b⟩⟩ => ?_
    obtain ⟨a, cap, rfl, hh⟩ := iu
    exact ⟨_, _, _, _, h, b, .inr ⟨rfl, rfl, h1, h2, s, M, ⟨a, cap, rfl, hh⟩, ln⟩⟩
/-- The bits of two to some number, by a mask that lets it be. -/
theorem mask31 : ∀ m : Nat, m < 16 → bits .and .i64 (m : Int) 31 = (m : Int) ∧ IntKind.u64.wrap (m : Int) = (m : Int) := by decide

set_option maxRecDepth 20000 in
set_option maxHeartbeats 1000000 in
theorem walk (a0 : Option Addr) (len0 cap0 : Nat) (z0 : List Int) (a1 : Int) (w : World) (w0 : IsRow .i64 w a0 len0 cap0 z0) (w1 : (Lit.int .i64 a1).wf = true) :
    Calls Try.prog 3 #[.slice a0 len0 cap0, .int .i64 a1] w fun e w' => e = .returned (.bool true) ∧ Below w.heap.size w w' := by
  obtain ⟨s0, _⟩ := row_ints w0
  have FRO := hide (from_of_row w0)
  clear w0 w1
  generalize (fun k => z0.getD k 0) = c0 at *
  have S0 := hide s0
  obtain ⟨b0, q0, e0, h0⟩ := s0
  cases e0
  have H0 := hide h0
  clear h0
  have z2 : w.heap.size ≤ w.heap.size := Nat.le_refl _
  by_cases g0 : 400 < len0
  · have g0' : (400 : Int) < (len0 : Int) := by omega
    go_enter Try.func3, Try.ntmps3
    go_wp2_with (go_at_call 8; refine (ans8 _).mono ?_; rintro e w2 ⟨rfl, b2⟩; have B2 := hide b2; clear b2)
    go_ret
    exact ⟨rfl, unhide B2⟩
  · have g0' : decide ((400 : Int) < (len0 : Int)) = false := decide_eq_false (by omega)
    by_cases h1 : a1 < 1
    · have h1' : decide ((1 : Int) ≤ a1) = false := decide_eq_false (by omega)
      have CB := hide (fun v w' (h : Ints .i64 w' v len0 c0) => bst_most v len0 a1 c0 w' h (.inl h1))
      go_enter Try.func3, Try.ntmps3
      go_wp2_with (first | (at_builtin; refine app_both rfl (.tmp 16) (.tmp 17) rfl w.heap.size _ rfl (empty_own _ _ z2) _ len0 c0 rfl ((unhide FRO).keep ((Below.refl _ w).alloc z2 _)) (by omega) (by simp) ?_; intro v4 w4 own4 grow4; have bel4 : Below w.heap.size w w4 := ((Below.refl _ w).alloc z2 _).grown grow4 (by simp) (fun j hj => by cases hj; exact z2); have I4 := hide (own_ints own4); have B4 := hide bel4; clear own4 bel4 grow4) | fail)
      refine (unhide CB _ _ (unhide I4)).mono ?_
      rintro e w5 ⟨rfl, b5⟩
      have B5 := hide ((unhide B4).trans (b5.mono (unhide B4).size))
      clear b5 B4 I4 CB
      go_wp2
      go_loopw [7, 8, 9] (fun x y z wr => ∃ k : Nat, k ≤ len0 ∧ x = .bool false ∧ y = .int .i64 ((pos c0 k).length : Nat) ∧ z = .int .i64 k ∧ wr = w5) (fun _ _ z _ => len0 - (intOf z).toNat)
      case atStart => exact ⟨0, Nat.zero_le _, rfl, rfl, rfl, rfl⟩
      case round =>
        obtain ⟨k, hk, rfl, rfl, rfl, rfl⟩ := hrel
        have pl := pos_len c0 k
        by_cases hlt : k < len0
        · have hlt' : (k : Int) < (len0 : Int) := by omega
          obtain ⟨b, off, rfl, d⟩ := unhide H0 k hlt
          have d' := ((unhide B5).cell (p := ⟨b, off + k, none⟩) (lt_of_cell d)).trans d
          clear d
          by_cases hp : 0 < c0 k
          · have PY := hide (pos_yes hp)
            have hp' : decide (0 < c0 k) = true := decide_eq_true hp
            clear hp
            generalize (pos c0 k).length = y at *
            generalize c0 k = x at *
            go_wp2
            go_roundw
            case rel => exact ⟨k + 1, by omega, rfl, by rw [unhide PY]; go_num, by go_num, by first | rfl | trivial⟩
            case measure => simp [intOf]; omega
          · have PY := hide (pos_no hp)
            have hp' : decide (0 < c0 k) = false := decide_eq_false hp
            clear hp
            generalize (pos c0 k).length = y at *
            generalize c0 k = x at *
            go_wp2
            go_roundw
            case rel => exact ⟨k + 1, by omega, rfl, by rw [unhide PY], by go_num, by first | rfl | trivial⟩
            case measure => simp [intOf]; omega
        · obtain rfl : k = len0 := by omega
          have hnl : ¬ (k : Int) < (k : Int) := by omega
          go_wp2_with fail
          refine (ans8 _).mono ?_
          rintro e w6 ⟨rfl, b6⟩
          have B6 := hide ((unhide B5).trans (b6.mono (unhide B5).size))
          clear b6
          go_wp2
          go_ret
          exact ⟨by simp, unhide B6⟩
    · by_cases h2 : 15 < a1
      · have h1' : decide ((1 : Int) ≤ a1) = true := decide_eq_true (by omega)
        have h2' : decide (a1 ≤ (15 : Int)) = false := decide_eq_false (by omega)
        have CB := hide (fun v w' (h : Ints .i64 w' v len0 c0) => bst_most v len0 a1 c0 w' h (.inr h2))
        go_enter Try.func3, Try.ntmps3
        go_wp2_with (first | (at_builtin; refine app_both rfl (.tmp 16) (.tmp 17) rfl w.heap.size _ rfl (empty_own _ _ z2) _ len0 c0 rfl ((unhide FRO).keep ((Below.refl _ w).alloc z2 _)) (by omega) (by simp) ?_; intro v4 w4 own4 grow4; have bel4 : Below w.heap.size w w4 := ((Below.refl _ w).alloc z2 _).grown grow4 (by simp) (fun j hj => by cases hj; exact z2); have I4 := hide (own_ints own4); have B4 := hide bel4; clear own4 bel4 grow4) | fail)
        refine (unhide CB _ _ (unhide I4)).mono ?_
        rintro e w5 ⟨rfl, b5⟩
        have B5 := hide ((unhide B4).trans (b5.mono (unhide B4).size))
        clear b5 B4 I4 CB
        go_wp2
        go_loopw [7, 8, 9] (fun x y z wr => ∃ k : Nat, k ≤ len0 ∧ x = .bool false ∧ y = .int .i64 ((pos c0 k).length : Nat) ∧ z = .int .i64 k ∧ wr = w5) (fun _ _ z _ => len0 - (intOf z).toNat)
        case atStart => exact ⟨0, Nat.zero_le _, rfl, rfl, rfl, rfl⟩
        case round =>
          obtain ⟨k, hk, rfl, rfl, rfl, rfl⟩ := hrel
          have pl := pos_len c0 k
          by_cases hlt : k < len0
          · have hlt' : (k : Int) < (len0 : Int) := by omega
            obtain ⟨b, off, rfl, d⟩ := unhide H0 k hlt
            have d' := ((unhide B5).cell (p := ⟨b, off + k, none⟩) (lt_of_cell d)).trans d
            clear d
            by_cases hp : 0 < c0 k
            · have PY := hide (pos_yes hp)
              have hp' : decide (0 < c0 k) = true := decide_eq_true hp
              clear hp
              generalize (pos c0 k).length = y at *
              generalize c0 k = x at *
              go_wp2
              go_roundw
              case rel => exact ⟨k + 1, by omega, rfl, by rw [unhide PY]; go_num, by go_num, by first | rfl | trivial⟩
              case measure => simp [intOf]; omega
            · have PY := hide (pos_no hp)
              have hp' : decide (0 < c0 k) = false := decide_eq_false hp
              clear hp
              generalize (pos c0 k).length = y at *
              generalize c0 k = x at *
              go_wp2
              go_roundw
              case rel => exact ⟨k + 1, by omega, rfl, by rw [unhide PY], by go_num, by first | rfl | trivial⟩
              case measure => simp [intOf]; omega
          · obtain rfl : k = len0 := by omega
            have hnl : ¬ (k : Int) < (k : Int) := by omega
            go_wp2_with fail
            refine (ans8 _).mono ?_
            rintro e w6 ⟨rfl, b6⟩
            have B6 := hide ((unhide B5).trans (b6.mono (unhide B5).size))
            clear b6
            go_wp2
            go_ret
            exact ⟨by simp, unhide B6⟩
      · obtain ⟨m, rfl⟩ : ∃ m : Nat, a1 = (m : Int) := ⟨a1.toNat, by omega⟩
        have h1' : decide ((1 : Int) ≤ (m : Int)) = true := decide_eq_true (by omega)
        have h1'' : (1 : Int) ≤ (m : Int) := by omega
        have h2' : decide ((m : Int) ≤ (15 : Int)) = true := decide_eq_true (by omega)
        have h2'' : (m : Int) ≤ (15 : Int) := by omega
        have CB := hide (fun v w' (h : Ints .i64 w' v len0 c0) => res9 v len0 m c0 w' h (by omega) (by omega) (by omega))
        go_enter Try.func3, Try.ntmps3
        go_wp2_with (first | (at_builtin; refine app_both rfl (.tmp 16) (.tmp 17) rfl w.heap.size _ rfl (empty_own _ _ z2) _ len0 c0 rfl ((unhide FRO).keep ((Below.refl _ w).alloc z2 _)) (by omega) (by simp) ?_; intro v4 w4 own4 grow4; have bel4 : Below w.heap.size w w4 := ((Below.refl _ w).alloc z2 _).grown grow4 (by simp) (fun j hj => by cases hj; exact z2); have I4 := hide (own_ints own4); have B4 := hide bel4; clear own4 bel4 grow4) | fail)
        refine (unhide CB _ _ (unhide I4)).mono ?_
        rintro e w5 ⟨ua, ul, uc, er, rfl, b5, alt⟩
        have B5 := hide ((unhide B4).trans (b5.mono (unhide B4).size))
        have ALT := hide alt
        clear b5 B4 I4 CB alt
        go_wp2
        go_loopw [7, 8, 9] (fun x y z wr => ∃ k : Nat, k ≤ len0 ∧ x = .bool (okB c0 k) ∧ y = .int .i64 ((pos c0 k).length : Nat) ∧ z = .int .i64 k ∧ wr = w5) (fun _ _ z _ => len0 - (intOf z).toNat)
        case atStart => exact ⟨0, Nat.zero_le _, rfl, rfl, rfl, rfl⟩
        case round =>
          obtain ⟨k, hk, rfl, rfl, rfl, rfl⟩ := hrel
          have pl := pos_len c0 k
          by_cases hlt : k < len0
          · have hlt' : (k : Int) < (len0 : Int) := by omega
            obtain ⟨b, off, rfl, d⟩ := unhide H0 k hlt
            have d' := ((unhide B5).cell (p := ⟨b, off + k, none⟩) (lt_of_cell d)).trans d
            clear d
            cases hob : okB c0 k
            · have OF := hide (show okB c0 (k + 1) = false by rw [okB_succ, hob]; rfl)
              clear hob
              by_cases hp : 0 < c0 k
              · have PY := hide (pos_yes hp)
                have hp' : decide (0 < c0 k) = true := decide_eq_true hp
                clear hp
                generalize (pos c0 k).length = y at *
                generalize c0 k = x at *
                go_wp2
                go_roundw
                case rel => exact ⟨k + 1, by omega, by rw [unhide OF], by rw [unhide PY]; go_num, by go_num, by first | rfl | trivial⟩
                case measure => simp [intOf]; omega
              · have PY := hide (pos_no hp)
                have hp' : decide (0 < c0 k) = false := decide_eq_false hp
                clear hp
                generalize (pos c0 k).length = y at *
                generalize c0 k = x at *
                go_wp2
                go_roundw
                case rel => exact ⟨k + 1, by omega, by rw [unhide OF], by rw [unhide PY], by go_num, by first | rfl | trivial⟩
                case measure => simp [intOf]; omega
            · by_cases n1 : c0 k < 0
              · have OF := hide (show okB c0 (k + 1) = false by rw [okB_succ, hob, decide_eq_false (by omega)]; rfl)
                have PY := hide (pos_no (c := c0) (n := k) (by omega))
                have n1' : decide (0 ≤ c0 k) = false := decide_eq_false (by omega)
                have n2' : decide (0 < c0 k) = false := decide_eq_false (by omega)
                clear hob n1
                generalize (pos c0 k).length = y at *
                generalize c0 k = x at *
                go_wp2
                go_roundw
                case rel => exact ⟨k + 1, by omega, by rw [unhide OF], by rw [unhide PY], by go_num, by first | rfl | trivial⟩
                case measure => simp [intOf]; omega
              · have n1' : decide (0 ≤ c0 k) = true := decide_eq_true (by omega)
                by_cases n2 : 4294967296 < c0 k
                · have OF := hide (show okB c0 (k + 1) = false by rw [okB_succ, hob, decide_eq_false (by omega)]; rfl)
                  have PY := hide (pos_yes (c := c0) (n := k) (by omega))
                  have n2' : decide (c0 k ≤ 4294967296) = false := decide_eq_false (by omega)
                  have n3' : decide (0 < c0 k) = true := decide_eq_true (by omega)
                  clear hob n1 n2
                  generalize (pos c0 k).length = y at *
                  generalize c0 k = x at *
                  go_wp2
                  go_roundw
                  case rel => exact ⟨k + 1, by omega, by rw [unhide OF], by rw [unhide PY]; go_num, by go_num, by first | rfl | trivial⟩
                  case measure => simp [intOf]; omega
                · have OF := hide (show okB c0 (k + 1) = true by rw [okB_succ, hob, decide_eq_true (by omega)]; rfl)
                  have n2' : decide (c0 k ≤ 4294967296) = true := decide_eq_true (by omega)
                  clear hob n1 n2
                  by_cases hp : 0 < c0 k
                  · have PY := hide (pos_yes hp)
                    have hp' : decide (0 < c0 k) = true := decide_eq_true hp
                    clear hp
                    generalize (pos c0 k).length = y at *
                    generalize c0 k = x at *
                    go_wp2
                    go_roundw
                    case rel => exact ⟨k + 1, by omega, by rw [unhide OF], by rw [unhide PY]; go_num, by go_num, by first | rfl | trivial⟩
                    case measure => simp [intOf]; omega
                  · have PY := hide (pos_no hp)
                    have hp' : decide (0 < c0 k) = false := decide_eq_false hp
                    clear hp
                    generalize (pos c0 k).length = y at *
                    generalize c0 k = x at *
                    go_wp2
                    go_roundw
                    case rel => exact ⟨k + 1, by omega, by rw [unhide OF], by rw [unhide PY], by go_num, by first | rfl | trivial⟩
                    case measure => simp [intOf]; omega
          · obtain rfl : k = len0 := by omega
            have hnl : ¬ (k : Int) < (k : Int) := by omega
            rcases unhide ALT with ⟨rfl, rfl, rfl, rfl, bad⟩ | ⟨rfl, rfl, ok, hn, s, M, iu, ln⟩
            · clear ALT
              cases hob : okB c0 k
              · clear bad hob
                go_wp2_with fail
                refine (ans8 _).mono ?_
                rintro e w6 ⟨rfl, b6⟩
                have B6 := hide ((unhide B5).trans (b6.mono (unhide B5).size))
                clear b6
                go_wp2
                go_ret
                exact ⟨by simp, unhide B6⟩
              · have hn : 2 ^ m < (pos c0 k).length := bad.elim (fun h => absurd ((okB_iff c0 k).1 hob) h) id
                clear bad hob
                obtain ⟨P, hP, hPE⟩ : ∃ P : Nat, wrap64 ((2 : Int) ^ min (IntKind.u64.wrap (bits .and .i64 (m : Int) 31)).toNat 64) = (P : Int) ∧ P = 2 ^ m := ⟨2 ^ m, by
                  rw [(mask31 m (by omega)).1, (mask31 m (by omega)).2, Int.toNat_natCast, Nat.min_eq_left (by omega)]
                  have h1 : 2 ^ m ≤ 2 ^ 15 := Nat.pow_le_pow_right (by omega) (by omega)
                  have e : ((2 ^ m : Nat) : Int) = (2 : Int) ^ m := by simp
                  rw [← e]
                  generalize 2 ^ m = z at *
                  simp [wrap64]
                  omega, rfl⟩
                have hnb : (P : Int) < (((pos c0 k).length : Nat) : Int) := by omega
                clear hPE hn
                generalize (pos c0 k).length = y at *
                go_wp2_with fail
                refine (ans8 _).mono ?_
                rintro e w6 ⟨rfl, b6⟩
                have B6 := hide ((unhide B5).trans (b6.mono (unhide B5).size))
                clear b6
                go_wp2
                go_ret
                exact ⟨by simp, unhide B6⟩
            · have hob := (okB_iff c0 ul).2 ok
              rw [hob]
              clear hob
              obtain ⟨P, hP, hPE⟩ : ∃ P : Nat, wrap64 ((2 : Int) ^ min (IntKind.u64.wrap (bits .and .i64 (m : Int) 31)).toNat 64) = (P : Int) ∧ P = 2 ^ m := ⟨2 ^ m, by
                rw [(mask31 m (by omega)).1, (mask31 m (by omega)).2, Int.toNat_natCast, Nat.min_eq_left (by omega)]
                have h1 : 2 ^ m ≤ 2 ^ 15 := Nat.pow_le_pow_right (by omega) (by omega)
                have e : ((2 ^ m : Nat) : Int) = (2 : Int) ^ m := by simp
                rw [← e]
                generalize 2 ^ m = z at *
                simp [wrap64]
                omega, rfl⟩
              have hnb : decide ((P : Int) < (((pos c0 ul).length : Nat) : Int)) = false := decide_eq_false (by omega)
              have hnc : decide (P < (pos c0 ul).length) = false := decide_eq_false (by omega)
              have HN := hide hn
              have OK := hide ok
              have LN := hide ln
              have IU := hide iu
              clear hn ok ln iu ALT hPE
              obtain ⟨n, hnn⟩ : ∃ n, (pos c0 ul).length = n := ⟨_, rfl⟩
              rw [hnn] at hnb hnc ⊢
              have NN := hide hnn
              clear hnn pl
              go_wp2_with fail
              refine (ans8 _).mono ?_
              rintro e w6 ⟨rfl, b6⟩
              have B6 := hide ((unhide B5).trans (b6.mono (unhide B5).size))
              have IU6 := hide ((unhide IU).keep b6)
              have IC6 := hide ((unhide S0).keep (unhide B6))
              obtain ⟨ua', cap', e', hh⟩ := unhide IU6
              cases e'
              have HI := hide hh
              obtain ⟨ca', cc', e2', hh2⟩ := unhide IC6
              cases e2'
              have HC := hide hh2
              clear b6 hh hh2 B5 H0 IU hnl
              go_wp2
              go_loopw [10] (fun x wr => ∃ j : Nat, j ≤ ul ∧ x = .int .i64 j ∧ Below w6.heap.size w6 wr) (fun x _ => ul - (intOf x).toNat)
              case atStart => exact ⟨0, Nat.zero_le _, rfl, Below.refl _ _⟩
              case round =>
                obtain ⟨j, hj, rfl, bel⟩ := hrel
                have BE := hide bel
                by_cases hlj : j < ul
                · have hlj' : (j : Int) < (ul : Int) := by omega
                  obtain ⟨b, off, rfl, d1⟩ := unhide HI j hlj
                  obtain ⟨b2, off2, rfl, d2⟩ := unhide HC j hlj
                  have f1 : wr.cell? ⟨b, off + j, none⟩ = some (.int .i64 ((M j : Nat) : Int)) := (bel.cell (p := ⟨b, off + j, none⟩) (lt_of_cell d1)).trans d1
                  have f2 : wr.cell? ⟨b2, off2 + j, none⟩ = some (.int .i64 (c0 j)) := (bel.cell (p := ⟨b2, off2 + j, none⟩) (lt_of_cell d2)).trans d2
                  have y1 : 0 ≤ ((M j : Nat) : Int) := Int.natCast_nonneg _
                  have y2 : ((M j : Nat) : Int) ≤ (m : Int) := by have := lns_le (unhide LN) (by omega) (unhide HN) j hlj; omega
                  have y3 : 0 < ((M j : Nat) : Int) ↔ 0 < c0 j := by have := lns_some (unhide LN) (by omega) (unhide HN) j hlj; omega
                  have y4 : n = 1 → ((M j : Nat) : Int) ≤ 1 := fun h => by have := lns_one (unhide LN) ((unhide NN).trans h) j hlj; omega
                  generalize ((M j : Nat) : Int) = y at *
                  generalize c0 j = x at *
                  have t1 : decide (y < 0) = false := decide_eq_false (by omega)
                  have t2 : decide ((m : Int) < y) = false := decide_eq_false (by omega)
                  clear d1 d2 bel y1 y2
                  by_cases hx : 0 < x
                  · have t3 : decide (0 < x) = true := decide_eq_true hx
                    have t4 : decide (0 < y) = true := decide_eq_true (y3.2 hx)
                    by_cases hn1 : n = 1
                    · have t5 : ((n : Int) == 1) = true := beq_iff_eq.2 (by omega)
                      have t6 : decide (1 < y) = false := decide_eq_false (by have := y4 hn1; omega)
                      clear hn1 y4 y3 hx
                      go_wp2
                      go_quiet ((fail))
                      rename_i nq
                      have BQ := hide (below_drewN (unhide BE) nq)
                      clear f1 f2
                      generalize wr.drewN nq = wq at *
                      go_wp2
                      go_roundw
                      case rel => exact ⟨j + 1, by omega, by go_num, unhide BQ⟩
                      case measure => simp [intOf]; omega
                    · have t5 : ((n : Int) == 1) = false := beq_eq_false_iff_ne.2 (by omega)
                      clear hn1 y4 y3 hx
                      go_wp2
                      go_quiet ((fail))
                      rename_i nq
                      have BQ := hide (below_drewN (unhide BE) nq)
                      clear f1 f2
                      generalize wr.drewN nq = wq at *
                      go_wp2
                      go_roundw
                      case rel => exact ⟨j + 1, by omega, by go_num, unhide BQ⟩
                      case measure => simp [intOf]; omega
                  · have t3 : decide (0 < x) = false := decide_eq_false hx
                    have t4 : decide (0 < y) = false := decide_eq_false (fun h => hx (y3.1 h))
                    by_cases hn1 : n = 1
                    · have t5 : ((n : Int) == 1) = true := beq_iff_eq.2 (by omega)
                      have t6 : decide (1 < y) = false := decide_eq_false (by have := y4 hn1; omega)
                      clear hn1 y4 y3 hx
                      go_wp2
                      go_quiet ((fail))
                      rename_i nq
                      have BQ := hide (below_drewN (unhide BE) nq)
                      clear f1 f2
                      generalize wr.drewN nq = wq at *
                      go_wp2
                      go_roundw
                      case rel => exact ⟨j + 1, by omega, by go_num, unhide BQ⟩
                      case measure => simp [intOf]; omega
                    · have t5 : ((n : Int) == 1) = false := beq_eq_false_iff_ne.2 (by omega)
                      clear hn1 y4 y3 hx
                      go_wp2
                      go_quiet ((fail))
                      rename_i nq
                      have BQ := hide (below_drewN (unhide BE) nq)
                      clear f1 f2
                      generalize wr.drewN nq = wq at *
                      go_wp2
                      go_roundw
                      case rel => exact ⟨j + 1, by omega, by go_num, unhide BQ⟩
                      case measure => simp [intOf]; omega
                · obtain rfl : j = ul := by omega
                  have hnl2 : ¬ (j : Int) < (j : Int) := by omega
                  have TT := lns_tot (unhide LN) (by omega) (by omega) (unhide HN) (by omega) (unhide OK)
                  have CT := hide (fun w' (hb : Below w6.heap.size w6 w') => tot11 _ _ j j c0 (fun i => ((M i : Nat) : Int)) w' (by omega) (by omega) ((unhide IC6).keep hb) ((unhide IU6).keep hb))
                  rw [Nat.min_self, TT] at CT
                  have CL := hide (fun w' (hb : Below w6.heap.size w6 w') => lea12 _ j m c0 (wts c0 (fun i => (s i : Int)) (pos c0 j).length) w' ((unhide IC6).keep hb) (by omega) (unhide OK) (by omega) (by omega) (unhide HN) (sym_of (unhide LN).re (unhide LN).up) (wts_perm (unhide LN).re))
                  clear TT bel
                  generalize cw (wts c0 (fun i => (s i : Int)) (pos c0 j).length) m = A at *
                  by_cases hn0 : n = 0
                  · have t7 : ((n : Int) == 0) = true := beq_iff_eq.2 (by omega)
                    clear hn0
                    go_wp2_with fail
                    refine (unhide CT wr (unhide BE)).mono ?_
                    rintro e w7 ⟨rfl, b7⟩
                    have B7 := hide ((unhide BE).trans (b7.mono (unhide BE).size))
                    clear b7
                    go_wp2_with fail
                    refine (unhide CL w7 (unhide B7)).mono ?_
                    rintro e w8 ⟨rfl, b8⟩
                    have B8 := hide ((unhide B6).trans (((unhide B7).trans (b8.mono (unhide B7).size)).mono (unhide B6).size))
                    clear b8
                    go_wp2
                    go_ret
                    exact ⟨by simp, unhide B8⟩
                  · have t7 : ((n : Int) == 0) = false := beq_eq_false_iff_ne.2 (by omega)
                    have CK := hide (fun w' (hb : Below w6.heap.size w6 w') => rcheck12 _ j (fun i => ((M i : Nat) : Int)) (by omega) w' ((unhide IU6).keep hb))
                    rw [lns_chk (unhide LN) (by omega) (by omega) (unhide HN) (by rw [unhide NN]; exact hn0)] at CK
                    clear hn0
                    go_wp2_with fail
                    refine (unhide CK wr (unhide BE)).mono ?_
                    rintro e w9 ⟨rfl, rfl⟩
                    go_wp2_with fail
                    refine (unhide CT _ (unhide BE)).mono ?_
                    rintro e w7 ⟨rfl, b7⟩
                    have B7 := hide ((unhide BE).trans (b7.mono (unhide BE).size))
                    clear b7
                    go_wp2_with fail
                    refine (unhide CL w7 (unhide B7)).mono ?_
                    rintro e w8 ⟨rfl, b8⟩
                    have B8 := hide ((unhide B6).trans (((unhide B7).trans (b8.mono (unhide B7).size)).mono (unhide B6).size))
                    clear b8
                    go_wp2
                    go_ret
                    exact ⟨by simp, unhide B8⟩

/-! ### THE ROW's STEP: WRITTEN OUT: LEAVE IT -/
set_option maxRecDepth 100000 in
theorem lifted (os : Os) (started : os.Started) (H : Type) (enc : TypeId × Value → H) :
    ReturnsInHanded {} Try.checked os 3 .any (Rows.sizeBestSpec.pre6 enc Try.prog Try.f3 Rows.sizeBestRow.domain false) (Rows.sizeBestSpec.post enc Try.prog Try.f3 false true false false) := by
  refine returnsInHanded_of_change (C := Try.checked) own started (by kernel_rfl) Try.func3
    (ChangeSpec.witness6 (enc := enc) (C := Try.checked) false ⟨#[], #[.slice none 0 0, .int .i64 0], []⟩ 8 (by kernel_rfl) (by kernel_rfl) (by kernel_rfl) (by kernel_rfl)) ?_
  intro W base args ds gs before hval0 hW hcnd _
  have hval : ∀ (j : Nat) t v, Try.f3.params[j]? = some t → args[j]? = some v → Value.okWide Try.prog W .any base t v := hval0
  have hW' := hW
  obtain ⟨p, q, hA0, hV, rfl, hfz, hnd⟩ := hW
  have hA : DataW.TrodAll enc Try.prog W 0 (fun _ => true) true Try.f3.params.toList args.toList ds p := hA0
  rw [Try.params3] at hA hval
  obtain ⟨v0, vs0, d0, ds0, p0, q0, hargs, rfl, rfl, h0, r0⟩ := trodAll_cons hA
  obtain ⟨v1, vs1, d1, ds1, p1, q1, rfl, rfl, rfl, h1, r1⟩ := trodAll_cons r0
  obtain ⟨rfl, rfl, rfl⟩ := trodAll_nil r1
  obtain rfl : args = #[v0, v1] := by cases args; simp_all
  obtain ⟨rfl, rfl⟩ := trodVars_none hV
  obtain ⟨a0, len0, cap0, rfl⟩ := okWide_slice Try.underlying22 (hval 0 22 v0 rfl rfl)
  have k0 := h0
  have lt0 : ∀ x ∈ p0, x.block < W.heap.size := by obtain ⟨m, hm⟩ := k0; exact DataW.trod_lt m _ _ _ hm
  obtain ⟨z0, w0⟩ : ∃ zs, IsRow .i64 W a0 len0 cap0 zs := by
    obtain ⟨fuel, hf⟩ := h0
    rcases open_ints Try.underlying22 Try.underlying3 (by kernel_rfl) hf with ⟨hcs, _⟩ | ⟨x, l, c, zs, hcs, _, hl, hm, hz, _, hcell, hwz⟩
    · simp [Value.cells] at hcs
      obtain ⟨rfl, rfl, rfl⟩ := hcs
      exact ⟨[], .inl ⟨rfl, rfl, rfl, rfl⟩⟩
    · simp [Value.cells] at hcs
      obtain ⟨rfl, rfl, rfl⟩ := hcs
      exact ⟨zs, .inr ⟨_, rfl, hl, hm, by simpa using hz, hcell, hwz⟩⟩
  obtain ⟨a1, rfl, rfl, rfl, w1⟩ := open_int Try.underlying3 (hval 1 3 v1 rfl rfl) h1
  clear hA0 hval0
  refine (walk a0 len0 cap0 z0 a1 W w0 w1).mono fun e W' ⟨he, bel⟩ => ?_
  subst he
  exact ⟨_, rfl, _, _, _, [], _, [], hW', trodAll_mk1 (shut_bool Try.underlying4 _), (trodAll_cons_mk (Below.trod laidOut (by kernel_rfl) (of_decide_eq_true (by kernel_rfl)) k0 bel lt0) (trodAll_cons_mk (shut_int Try.underlying3 w1) trodAll_mk0)), rfl, bel.frame _, fun h => by cases h⟩

theorem over : Rows.sizeBestRow.holds Try.pinned (OpenSpec.ofChange Rows.sizeBestSpec) :=
  OpenClaim.holds_of_wide 3 Try.f3 rfl rfl rfl rfl rfl rfl rfl ⟨rfl, rfl, rfl, rfl, rfl⟩ rfl rfl rfl rfl rfl (by kernel_rfl) Try.func3 (by kernel_rfl)
    (of_decide_eq_true (by kernel_rfl)) (by unfold Func.isWrapper; first | (rw [if_pos (by decide +kernel)]; kernel_rfl) | (rw [if_neg (by decide +kernel)]; exact ⟨rfl, rfl⟩))
    (fun os started H enc _ => lifted os started H enc)

/-- ████ THE STATEMENT ████ -/
theorem proved : Rows.SizeBestSaid := over
#print axioms proved
end Go.Proofs.Ytcfnbbelbadmkaa.sizeBest
