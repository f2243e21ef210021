/- Contracts: the document's Fits. Conditions: at most a million pixels. -/
import Derived.Test.YtpkiilnkiidoiaaKFit
namespace Go.Proofs.Ytpkiilnkiidoiaa.KRfi
set_option linter.unusedVariables false
open Go.ChangeShapes Go.WideShapes Go.ChangeAt Go.RowKit Go.Sort Go.Proofs.Ytpkiilnkiidoiaa.Core Go.Proofs.Ytpkiilnkiidoiaa.CNum Go.Proofs.Ytpkiilnkiidoiaa.KNum Go.Proofs.Ytpkiilnkiidoiaa.KMem Go.Proofs.Ytpkiilnkiidoiaa.KFit

theorem drop_step {α : Type} {ss : List α} {k : Nat} {s : α} (h : ss[k]? = some s) : ss.drop k = s :: ss.drop (k + 1) := by
  obtain ⟨hk, rfl⟩ := List.getElem?_eq_some_iff.1 h
  exact List.drop_eq_getElem_cons hk
theorem fit1_no {px : List Nat} {s : Sp} (h : okV px.length s = false) : fit1 px s = false := by simp [fit1, h]
set_option maxRecDepth 20000 in
set_option maxHeartbeats 4000000 in
theorem rfits12 {B : Nat} {w : World} {a a' : Option Addr} {n c k c' : Nat} {px : List Nat} {ss : List Sp} (h : Lst B w a px) (hs : Sps B w a' ss) (hn : n = px.length) (hl : n ≤ 1000000) (hk : k = ss.length) (hkl : k ≤ 1000000) (hB : B ≤ w.heap.size) :
    Calls Try.prog 12 #[.slice a n c, .slice a' k c'] w fun e w' => e = .returned (.bool (fitV px 0 ss)) ∧ Below w.heap.size w w' := by
  have L := hide h
  have SS := hide hs
  have HN := hide (And.intro hn hl)
  have HK := hide hk
  have HB := hide hB
  clear h hs hn hl hk hB
  go_enter Try.func12, Try.ntmps12
  go_wp2
  go_loopw [5, 6] (fun x y wr => ∃ (nx j : Nat), x = .int .i64 nx ∧ y = .int .i64 j ∧ j ≤ k ∧ nx ≤ n ∧ Below w.heap.size w wr ∧ fitV px nx (ss.drop j) = fitV px 0 ss) (fun _ y _ => k - (intOf y).toNat)
  case atStart => exact ⟨0, 0, rfl, rfl, by omega, by omega, Below.refl _ _, rfl⟩
  case round =>
    obtain ⟨nx, j, rfl, rfl, hj, hx, bel, eq⟩ := hrel
    have BB := hide bel
    have EE := hide eq
    clear bel eq
    by_cases hlt : j < k
    · have hlt' : (j : Int) < (k : Int) := by omega
      obtain ⟨s, hs⟩ : ∃ s, ss[j]? = some s := ⟨_, List.getElem?_eq_getElem (by have := unhide HK; omega)⟩
      obtain ⟨b, off, rfl, hb, q0, q1, q2⟩ := (unhide SS) j s hs
      have HS := hide (drop_step hs)
      have B1 := (unhide BB).mono (unhide HB)
      have c0 := (B1.cell (p := ⟨b, off + j * 3, none⟩) hb).trans q0
      have c1 := (B1.cell (p := ⟨b, off + j * 3 + 1, none⟩) hb).trans q1
      have c2 := (B1.cell (p := ⟨b, off + j * 3 + 2, none⟩) hb).trans q2
      have hbw : b < wr.heap.size := lt_of_cell c0
      clear q0 q1 q2 hs B1
      have hni : (n : Int) ≤ 1000000 := by have := (unhide HN).2; omega
      by_cases hok : (nx : Int) ≤ s.p ∧ okV n s = true
      · obtain ⟨p, m, d⟩ := s
        obtain ⟨hnp, ho⟩ := hok
        obtain ⟨a1, a2, a3, a4, a5, a6, a7⟩ := of_decide_eq_true ho
        simp only at hnp a1 a2 a3 a4 a5 a6 a7
        obtain ⟨p, rfl⟩ := Int.eq_ofNat_of_zero_le a1
        obtain ⟨m, rfl⟩ := Int.eq_ofNat_of_zero_le (a := m) (by omega)
        obtain ⟨d, rfl⟩ := Int.eq_ofNat_of_zero_le (a := d) (by omega)
        have fin1 : ∀ q : Nat, p = q + d → (∀ i, p ≤ i → i < p + m → px.getD i 0 = px.getD (i - d) 0) → fitV px (p + m) (ss.drop (j + 1)) = fitV px 0 ss := fun q hq hh => by
          rw [← unhide EE, unhide HS, fit_mk (by simp only; omega)]
          · rfl
          · unfold fit1
            rw [← (unhide HN).1, ho, Bool.true_and]
            refine decide_eq_true ?_
            simp only [Int.toNat_natCast]
            have := (unhide HN).1
            exact sect_eq (by omega) (by omega) (fun i hi => by rw [hh (p + i) (by omega) (by omega), show p + i - d = p - d + i by omega])
        have fin2 : ∀ i, p ≤ i → i < p + m → px.getD i 0 ≠ px.getD (i - d) 0 → fitV px 0 ss = false := fun i h1 h2 hne => by
          rw [← unhide EE, unhide HS, fit_no]
          intro _
          unfold fit1
          rw [← (unhide HN).1, ho, Bool.true_and]
          refine decide_eq_false ?_
          simp only [Int.toNat_natCast]
          have := (unhide HN).1
          exact sect_ne (j := i - p) (by omega) (by omega) (by omega) (by rw [show p + (i - p) = i by omega, show p - d + (i - p) = i - d by omega]; exact hne)
        have F1 := hide fin1
        have F2 := hide fin2
        clear fin1 fin2 ho a1
        obtain ⟨q, hq⟩ : ∃ q : Nat, p = q + d := ⟨p - d, by omega⟩
        have HQ := hide hq
        have HR := hide (And.intro a2 (And.intro a4 (And.intro a5 a7)))
        have hpm : (p : Int) + (m : Int) ≤ 1000000 := by omega
        have t1 : decide ((p : Int) < (nx : Int)) = false := decide_eq_false (by omega)
        have t2 : decide ((m : Int) < 1) = false := decide_eq_false (by omega)
        have t3 : decide ((4096 : Int) < (m : Int)) = false := decide_eq_false (by omega)
        have t4 : decide ((d : Int) < 1) = false := decide_eq_false (by omega)
        have t5 : decide ((p : Int) < (d : Int)) = false := decide_eq_false (by omega)
        have t6 : decide ((1048456 : Int) < (d : Int)) = false := decide_eq_false (by omega)
        have t7 : decide ((n : Int) < (m : Int)) = false := decide_eq_false (by omega)
        have t8 : decide ((n : Int) - (m : Int) < (p : Int)) = false := decide_eq_false (by omega)
        have t9 : IntKind.i64.wrap ((n : Int) - (m : Int)) = (n : Int) - (m : Int) := by
          simp [IntKind.wrap, IntKind.bits, IntKind.signed]; omega
        have s1 : decide (p < nx) = false := decide_eq_false (by omega)
        have s2 : decide (m < 1) = false := decide_eq_false (by omega)
        have s3 : decide (4096 < m) = false := decide_eq_false (by omega)
        have s4 : decide (d < 1) = false := decide_eq_false (by omega)
        have s5 : decide (p < d) = false := decide_eq_false (by omega)
        have s7 : decide (n < m) = false := decide_eq_false (by omega)
        clear hnp a2 a3 a4 a5 a6 a7 hq
        go_wp2
        have BX := hide (Box.made wr 45 #[.int .i64 p, .int .i64 m, .int .i64 d])
        have B0 := hide (bel_a1 wr (.cells #[.int .i64 p, .int .i64 m, .int .i64 d] 45))
        have S0 := hide (show wr.heap.size + 1 = (wr.alloc (.cells #[.int .i64 p, .int .i64 m, .int .i64 d] 45)).heap.size by simp)
        clear c0 c1 c2 hbw
        generalize wr = wo at *
        go_loopw [8] (fun x wr => ∃ i : Nat, x = .int .i64 i ∧ p ≤ i ∧ i ≤ p + m ∧ Box wr wo.heap.size 45 #[.int .i64 p, .int .i64 m, .int .i64 d] ∧ Below wo.heap.size wo wr ∧ ∀ t, p ≤ t → t < i → px.getD t 0 = px.getD (t - d) 0) (fun x _ => p + m - (intOf x).toNat)
        case atStart => exact ⟨p, rfl, by omega, by omega, unhide BX, unhide B0, fun t h1 h2 => by omega⟩
        case round =>
          obtain ⟨i, rfl, hi1, hi2, bx, b2, eqs⟩ := hrel
          have k0 : wr.cell? ⟨wo.heap.size, 0, none⟩ = some (.int .i64 p) := bx.cell 0
          have k1 : wr.cell? ⟨wo.heap.size, 1, none⟩ = some (.int .i64 m) := bx.cell 1
          have k2 : wr.cell? ⟨wo.heap.size, 2, none⟩ = some (.int .i64 d) := bx.cell 2
          have BX2 := hide bx
          have B2 := hide b2
          have EQ := hide eqs
          clear BX bx b2 eqs B0 S0
          by_cases hlt2 : i < p + m
          · have hlt3 : (i : Int) < (p : Int) + (m : Int) := by omega
            obtain ⟨y, hy⟩ : ∃ y : Nat, i = y + d := ⟨i - d, by have := unhide HR; omega⟩
            have j1 : IntKind.i64.wrap ((i : Int) - (d : Int)) = (y : Int) := by
              simp [IntKind.wrap, IntKind.bits, IntKind.signed]; omega
            have hin : i < n := by have := unhide HR; omega
            have hyn : y < n := by omega
            have j2 : (i : Int) < (n : Int) := by omega
            have j3 : (y : Int) < (n : Int) := by omega
            have LW : Lst B wr a px := ((unhide L).below ((unhide BB).mono (unhide HB))).below ((unhide B2).mono (Nat.le_trans (unhide HB) (unhide BB).size))
            obtain ⟨ba, oa, rfl, hba, q1⟩ := LW i _ (some_getD (by have := (unhide HN).1; omega))
            obtain ⟨ba', oa', ea, _, q2⟩ := LW y _ (some_getD (by have := (unhide HN).1; omega))
            cases ea
            clear LW
            have hiy : i - d = y := by omega
            by_cases hxy : px.getD i 0 = px.getD y 0
            · have HE := hide hxy
              have HY := hide hiy
              have hne : (((px.getD i 0 : Nat) : Int) != ((px.getD y 0 : Nat) : Int)) = false := ne_false hxy
              generalize hX : px.getD i 0 = X at *
              generalize hY : px.getD y 0 = Y at *
              have HX := hide hX
              have HYY := hide hY
              clear hX hY hxy hy hiy
              go_wp2
              go_quiet (fail)
              go_wp2
              go_roundw
              case rel => exact ⟨i + 1, by go_num, by omega, by omega, (unhide BX2).drewN _, bel_drN (unhide B2) _, fun t h1 h2 => by
                by_cases e : t = i
                · rw [e, unhide HY, unhide HX, unhide HYY, unhide HE]
                · exact unhide EQ t h1 (by omega)⟩
              case measure => simp [intOf]; omega
            · have FN := hide ((unhide F2) i hi1 hlt2 (by rw [hiy]; exact hxy))
              have hne : (((px.getD i 0 : Nat) : Int) != ((px.getD y 0 : Nat) : Int)) = true := ne_true hxy
              generalize px.getD i 0 = X at *
              generalize px.getD y 0 = Y at *
              clear hxy hy hiy
              go_wp2
              go_quiet (fail)
              go_wp2
              go_ret
              exact ⟨ret_bool (unhide FN).symm, bel_drN ((unhide BB).trans ((unhide B2).mono (unhide BB).size)) _⟩
          · have hlt3 : decide (i < p + m) = false := decide_eq_false hlt2
            have hlt4 : decide ((i : Int) < (p : Int) + (m : Int)) = false := decide_eq_false (by omega)
            have ei : i = p + m := by omega
            have FN := hide ((unhide F1) _ (unhide HQ) (fun t h1 h2 => unhide EQ t h1 (by omega)))
            clear hlt2
            go_wp2
            go_roundw
            case rel => exact ⟨p + m, j + 1, by go_num, by go_num, by omega, by have := unhide HR; omega, (unhide BB).trans ((unhide B2).mono (unhide BB).size), unhide FN⟩
            case measure => simp [intOf]; omega
      · have HO := hide hok
        obtain ⟨p, m, d⟩ := s
        have hcs : p < (nx : Int) ∨ ((nx : Int) ≤ p ∧ m < 1) ∨ ((nx : Int) ≤ p ∧ 1 ≤ m ∧ 4096 < m) ∨ ((nx : Int) ≤ p ∧ 1 ≤ m ∧ m ≤ 4096 ∧ d < 1) ∨ ((nx : Int) ≤ p ∧ 1 ≤ m ∧ m ≤ 4096 ∧ 1 ≤ d ∧ p < d) ∨ ((nx : Int) ≤ p ∧ 1 ≤ m ∧ m ≤ 4096 ∧ 1 ≤ d ∧ d ≤ p ∧ 1048456 < d) ∨ ((nx : Int) ≤ p ∧ 1 ≤ m ∧ m ≤ 4096 ∧ 1 ≤ d ∧ d ≤ p ∧ d ≤ 1048456 ∧ (n : Int) < m) ∨ ((nx : Int) ≤ p ∧ 1 ≤ m ∧ m ≤ 4096 ∧ 1 ≤ d ∧ d ≤ p ∧ d ≤ 1048456 ∧ m ≤ (n : Int) ∧ (n : Int) - m < p) := by
          have h2 : ¬ ((nx : Int) ≤ p ∧ 0 ≤ p ∧ 1 ≤ m ∧ m ≤ 4096 ∧ 1 ≤ d ∧ d ≤ p ∧ d ≤ 1048456 ∧ p + m ≤ (n : Int)) := fun c => hok ⟨c.1, decide_eq_true c.2⟩
          omega
        have fin : fitV px nx ((⟨p, m, d⟩ : Sp) :: ss.drop (j + 1)) = false := fit_no (fun h => by
          refine fit1_no ?_
          rw [← (unhide HN).1]
          by_cases c : okV n ⟨p, m, d⟩ = true
          · exact absurd ⟨h, c⟩ hok
          · simpa using c)
        have FIN := hide (show false = fitV px 0 ss by rw [← unhide EE, unhide HS, fin])
        clear fin hok HO
        simp only at c0 c1 c2
        rcases hcs with g1 | ⟨g1, g2⟩ | ⟨g1, g2, g3⟩ | ⟨g1, g2, g3, g4⟩ | ⟨g1, g2, g3, g4, g5⟩ | ⟨g1, g2, g3, g4, g5, g6⟩ | ⟨g1, g2, g3, g4, g5, g6, g7⟩ | ⟨g1, g2, g3, g4, g5, g6, g7, g8⟩
        all_goals go_wp2
        all_goals go_ret
        all_goals exact ⟨ret_bool (unhide FIN), (unhide BB).trans ((bel_a1 _ _).mono (unhide BB).size)⟩
    · have e : j = k := by omega
      have hlt' : ¬ (j : Int) < (k : Int) := by omega
      go_wp2
      go_ret
      refine ⟨ret_bool ?_, unhide BB⟩
      rw [← unhide EE, List.drop_eq_nil_of_le (by have := unhide HK; omega)]; rfl
end Go.Proofs.Ytpkiilnkiidoiaa.KRfi
