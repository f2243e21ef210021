/- Contracts: slices.pdqsortOrdered and slices.Sort of uint32. Conditions: the row is of at most 60000 numbers. -/
import Derived.Test.YtflmlbdcjjldgaaQIns
import Derived.Test.YtflmlbdcjjldgaaQSif
import Derived.Test.YtflmlbdcjjldgaaQRev
import Derived.Test.YtflmlbdcjjldgaaQBrk
import Derived.Test.YtflmlbdcjjldgaaQPar
import Derived.Test.YtflmlbdcjjldgaaQPeq
import Derived.Test.YtflmlbdcjjldgaaQPrt
import Derived.Test.YtflmlbdcjjldgaaQMbt
namespace Go.Proofs.Ytflmlbdcjjldgaa.QPdq
set_option linter.unusedVariables false
open Go.ChangeShapes Go.WideShapes Go.ChangeAt Go.RowKit Go.Sort Go.Proofs.Ytflmlbdcjjldgaa.Core Go.Proofs.Ytflmlbdcjjldgaa.QNum Go.Proofs.Ytflmlbdcjjldgaa.QLes Go.Proofs.Ytflmlbdcjjldgaa.QMat Go.Proofs.Ytflmlbdcjjldgaa.QMbt Go.Proofs.Ytflmlbdcjjldgaa.QIns Go.Proofs.Ytflmlbdcjjldgaa.QSif Go.Proofs.Ytflmlbdcjjldgaa.QRev Go.Proofs.Ytflmlbdcjjldgaa.QBrk Go.Proofs.Ytflmlbdcjjldgaa.QPiv Go.Proofs.Ytflmlbdcjjldgaa.QPar Go.Proofs.Ytflmlbdcjjldgaa.QPeq Go.Proofs.Ytflmlbdcjjldgaa.QPrt

/-- What the library's sorting does to a part of a row. -/
def Done (w : World) (g o n a b : Nat) (d : Array Nat) (e : Ending) (w' : World) : Prop :=
  e = .returned (.tuple #[]) ∧ ∃ d' : Array Nat, d'.size = n ∧ PermIn a b d d' ∧ SortedIn cl a b d' ∧ Row w g o d' w'
theorem rd_row {w wr : World} {g o n : Nat} {d : Array Nat} (h : Row w g o d wr) (hd : d.size = n) : Rd wr g o n (fun t => d[t]!) := fun t ht => h.cell t (by omega)

def PdqTo (N : Nat) : Prop := ∀ (g o n a b limit c : Nat) (d : Array Nat) (w : World), b - a < N → Row w g o d w → d.size = n → a ≤ b → b ≤ n → n ≤ 60000 → limit ≤ 1000 → Go.Sort.Below cl a b d →
    Calls Try.prog 47 #[.slice (some ⟨g, o, none⟩) n c, .int .i64 a, .int .i64 b, .int .i64 limit] w fun e w' => Done w g o n a b d e w'
set_option maxRecDepth 100000 in
set_option maxHeartbeats 12800000 in
theorem pdq47 : ∀ (N : Nat), PdqTo N := by
  intro N
  induction N with
  | zero => intro _ _ _ _ _ _ _ _ _ h; omega
  | succ N IH =>
    intro g o n a b limit c d w hN R hd hab hb hn hlim hB
    have R0 := hide R
    have B0 := hide hB
    clear R hB
    go_enter Try.func47, Try.ntmps47
    go_wp2
    go_loopw [1, 2, 3, 8, 9] (fun s1 s2 s3 s8 s9 wr => ∃ (a' b' lim : Nat) (dk : Array Nat) (wb wp : Bool), s1 = .int .i64 a' ∧ s2 = .int .i64 b' ∧ s3 = .int .i64 lim ∧ s8 = .bool wb ∧ s9 = .bool wp ∧ a ≤ a' ∧ a' ≤ b' ∧ b' ≤ b ∧ lim ≤ 1000 ∧ dk.size = n ∧ Go.Sort.Below cl a' b' dk ∧ Row w g o dk wr ∧ Tobe a b d a' b' dk) (fun s1 s2 _ _ _ _ => (intOf s2 - intOf s1).toNat)
    case atStart => exact ⟨a, b, limit, d, true, true, rfl, rfl, rfl, rfl, rfl, Nat.le_refl _, hab, Nat.le_refl _, hlim, hd, unhide B0, unhide R0, Tobe.start⟩
    case round =>
      obtain ⟨a', b', lim, dk, wb, wp, rfl, rfl, rfl, rfl, rfl, haa, hab', hbb, hlm, hsk, hBk, hR, hT⟩ := hrel
      have RK := hide hR
      have BK := hide hBk
      have TK := hide hT
      clear hR hBk hT
      by_cases h12 : b' - a' ≤ 12
      · have h12' : (b' : Int) - (a' : Int) ≤ 12 := by omega
        have K := hide (ins49 (a := a') (b := b') c (unhide RK).self hsk hab' (by omega) (by omega))
        go_wp2_with (go_at_call 49; refine (unhide K).mono ?_; rintro e w1 ⟨rfl, R1⟩)
        (try simp only [Exit.inBlock, Exit.then]); refine bodyPost_ret (results_none rfl _ _ _) rfl ?_
        have hi := insertionSort_holds cl_swo dk a' b' hab' (by omega)
        obtain ⟨p, s⟩ := left_done (unhide TK) hi.1 hi.2
        exact ⟨rfl, insertionSort cl dk a' b', hi.1.1.trans hsk, p, s, (unhide RK).trans R1⟩
      · have h12' : ¬ (b' : Int) - (a' : Int) ≤ 12 := by omega
        by_cases hl0 : lim = 0
        · subst hl0
          have K := hide (heap50 (a := a') (b := b') c (unhide RK).self hsk (by omega) (by omega) (by omega))
          go_wp2_with (go_at_call 50; refine (unhide K).mono ?_; rintro e w1 ⟨rfl, R1⟩)
          (try simp only [Exit.inBlock, Exit.then]); refine bodyPost_ret (results_none rfl _ _ _) rfl ?_
          have hi := heapSort_holds cl_swo dk a' b' hab' (by omega)
          obtain ⟨p, s⟩ := left_done (unhide TK) hi.1 hi.2
          exact ⟨rfl, heapSort cl dk a' b', hi.1.1.trans hsk, p, s, (unhide RK).trans R1⟩
        · have hl0' : ¬ (lim : Int) = 0 := by omega
          go_upto_if 35 with fail
          go_cut [3] from 19 to 133 (fun s3 wc => ∃ (l2 : Nat) (d1 : Array Nat), s3 = .int .i64 l2 ∧ l2 ≤ 1000 ∧ d1.size = n ∧ PermIn a' b' dk d1 ∧ Row w g o d1 wc)
          case first =>
            cases wb
            · have K := hide (brk51 (a := a') (b := b') c (unhide RK).self hsk (by omega) (by omega) (by omega))
              go_wp2_with (go_at_call 51; refine (unhide K).mono ?_; rintro e w1 ⟨rfl, d1, s1, p1, R1⟩)
              go_meet
              case rel => exact ⟨lim - 1, d1, by congr 1; omega, by omega, s1, p1, (unhide RK).trans R1⟩
            · go_wp2_with fail
              go_meet
              case rel => exact ⟨lim, dk, rfl, hlm, hsk, permIn_refl dk a' b', unhide RK⟩
          case rest =>
            obtain ⟨l2, d1, rfl, hl2, s1, p1, hR1⟩ := hcut
            have R1 := hide hR1
            have P1 := hide p1
            clear hR1 p1
            have K := hide (piv52 (a := a') (b := b') c (rd_row (unhide R1) s1) (unhide R1).glt (by omega) (by omega) (by omega))
            go_upto_if 50 with (go_at_call 52; refine (unhide K).mono ?_; rintro e w2 ⟨x, h, rfl, hx, hh, b2⟩)
            have R2 := hide ((unhide R1).below b2)
            clear b2 K
            go_cut [11, 12] from 19 to 133 (fun s11 s12 wc => ∃ (pv ht : Nat) (d2 : Array Nat), s11 = .int .i64 pv ∧ s12 = .int .i64 ht ∧ a' ≤ pv ∧ pv < b' ∧ d2.size = n ∧ PermIn a' b' d1 d2 ∧ Row w g o d2 wc)
            case first =>
              by_cases h2 : h = 2
              · subst h2
                have K := hide (rev53 (a := a') (b := b') c (unhide R2).self s1 (by omega) (by omega) (by omega))
                go_wp2_with (go_at_call 53; refine (unhide K).mono ?_; rintro e w3 ⟨rfl, R3⟩)
                go_meet
                case rel => exact ⟨b' - 1 - (x - a'), 1, reverseRange d1 a' b', by congr 1; omega, rfl, by omega, by omega, (reverseRange_holds d1 a' b' hab' (by omega)).1.trans s1, reverseRange_holds d1 a' b' hab' (by omega), (unhide R2).trans R3⟩
              · have h2' : ¬ (h : Int) = 2 := by omega
                go_wp2_with fail
                go_meet
                case rel => exact ⟨x, h, d1, rfl, rfl, hx.1, hx.2, s1, permIn_refl d1 a' b', unhide R2⟩
            case rest =>
              obtain ⟨pv, ht, d2, rfl, rfl, hp1, hp2, s2, p2, hR3⟩ := hcut
              have R3 := hide hR3
              have P2 := hide (permIn_trans _ _ _ _ _ (unhide P1) p2)
              clear hR3 p2 P1 R2 R1
              go_upto_region 15 with fail
              go_cut [68] from 19 to 133 (fun s68 wx => (∃ bb : Bool, s68 = .bool bb) ∧ wx = wc)
              case first =>
                cases wb <;> cases wp <;> by_cases h1 : ht = 1 <;>
                  (have h1' := h1
                   first
                     | (have h1' : ¬ (ht : Int) = 1 := by omega
                        go_wp2_with fail
                        go_meet
                        exact ⟨⟨_, rfl⟩, rfl⟩)
                     | (subst h1
                        go_wp2_with fail
                        go_meet
                        exact ⟨⟨_, rfl⟩, rfl⟩))
              case rest =>
                obtain ⟨⟨bb, rfl⟩, hwc⟩ := hcut
                subst hwc
                go_upto_if 68 with fail
                go_cut [] from 19 to 133 (fun wx => ∃ d3 : Array Nat, d3.size = n ∧ PermIn a' b' dk d3 ∧ Row w g o d3 wx)
                case first =>
                  cases bb
                  · go_wp2_with fail
                    go_meet
                    case rel => exact ⟨d2, s2, unhide P2, unhide R3⟩
                  · have K := hide (par54 (a := a') (b := b') c (unhide R3).self s2 (by omega) (by omega) (by omega))
                    have PI := hide (partialInsertionSort_holds cl_swo d2 a' b' (by omega) (by omega) (below_perm (unhide BK) (by omega) (unhide P2)))
                    generalize partialInsertionSort cl d2 a' b' = r at *
                    go_wp2_with (go_at_call 54; refine (unhide K).mono ?_; rintro e w4 ⟨rfl, R4⟩)
                    · have hr : r.2 = true := by assumption
                      (try simp only [Exit.inBlock, Exit.then]); refine bodyPost_ret (results_none rfl _ _ _) rfl ?_
                      obtain ⟨p, s⟩ := left_done (unhide TK) (permIn_trans _ _ _ _ _ (unhide P2) (unhide PI).1) ((unhide PI).2 hr)
                      exact ⟨rfl, r.1, (unhide PI).1.1.trans s2, p, s, (unhide R3).trans R4⟩
                    · go_meet
                      case rel => exact ⟨r.1, (unhide PI).1.1.trans s2, permIn_trans _ _ _ _ _ (unhide P2) (unhide PI).1, (unhide R3).trans R4⟩
                case rest =>
                  obtain ⟨d3, s3, p3, hR5⟩ := hcut
                  have R5 := hide hR5
                  have B3 := hide (below_perm (unhide BK) (by omega) p3)
                  have TB := hide ((unhide TK).perm p3)
                  clear hR5 p3 R3 P2 BK TK
                  obtain ⟨G, hG⟩ : ∃ G : Nat → Nat, ∀ t, G t = d3[t]! := ⟨fun t => d3[t]!, fun _ => rfl⟩
                  have hcw : ∀ t, t < n → wc.cell? ⟨g, o + t, none⟩ = some (.int .u32 (G t : Nat)) := fun t ht => by rw [hG]; exact (unhide R5).cell t (by omega)
                  have HG := hide hG
                  clear hG
                  go_upto_region 17 with fail
                  go_cut [1, 10, 87] from 19 to 133 (fun s1 s10 s87 wx => s1 = .int .i64 a' ∧ s10 = .int .i64 ((b' : Int) - (a' : Int)) ∧ ∃ bb : Bool, s87 = .bool bb ∧ (bb = true → 0 < a' ∧ cl (G (a' - 1)) (G pv) = false) ∧ Row w g o d3 wx)
                  case first =>
                    rcases Nat.eq_zero_or_pos a' with ha0 | ha0
                    · have ha0' : ¬ (0 : Int) < (a' : Int) := by omega
                      go_big_quiet (first | (go_at_call 55; refine Calls.quiet_of_same (less55 _ _ _)))
                      go_wp2_with fail
                      go_meet
                      case rel => exact ⟨by rw [ha0]; rfl, by rw [ha0]; simp, false, rfl, fun h => (by cases h), (unhide R5).drewN _⟩
                    · have ha0' : (0 : Int) < (a' : Int) := by omega
                      go_big_quiet (first | (go_at_call 55; refine Calls.quiet_of_same (less55 _ _ _)))
                      go_wp2_with fail
                      go_meet
                      case rel => exact ⟨rfl, rfl, _, rfl, fun h => ⟨ha0, nt h⟩, (unhide R5).drewN _⟩
                  case rest =>
                    obtain ⟨rfl, rfl, bb, rfl, hbb', hR6⟩ := hcut
                    have R6 := hide hR6
                    have HB := hide hbb'
                    clear hR6 hbb' hcw R5
                    cases bb
                    · obtain ⟨p, hp⟩ : ∃ p, p = d3[pv]! := ⟨_, rfl⟩
                      have K := hide (prt57 (a := a') (b := b') (q := pv) c (unhide R6).self s3 hp1 hp2 (by omega) (by omega) hp)
                      clear hp
                      go_upto_if 113 with (go_at_call 57; refine (unhide K).mono ?_; rintro e w7 ⟨m, ap, d4, rfl, s4, C4, R4⟩; have m1 := C4.h1; have m2 := C4.h2)
                      have R7 := hide ((unhide R6).trans R4)
                      have hs7 := s4
                      have CC := hide C4
                      have B4 := hide (below_perm (unhide B3) (by omega) C4.perm)
                      clear C4 R4 R6 K
                      by_cases h4 : m - a' < b' - m
                      · skip
                        have h4' : (m : Int) - (a' : Int) < (b' : Int) - (m : Int) := by omega
                        have K := IH g o n (a') (m) l2 c d4 _ (by omega) (unhide R7).self hs7 (by omega) (by omega) hn hl2 (below_left (unhide B4) (by omega))
                        have KK := hide K
                        clear K
                        go_wp2_with (go_at_call 47; refine (unhide KK).mono ?_; rintro e w8 ⟨rfl, d5, s5, P5, S5, R8⟩)
                        go_roundw
                        case rel => exact ⟨m + 1, b', l2, d5, _, _, (by go_num), rfl, rfl, rfl, rfl, by omega, by omega, by omega, by omega, s5, below_l (unhide CC) P5, (unhide R7).trans R8, left_l (unhide TB) (by omega) (unhide CC) P5 S5⟩
                        case measure => simp [intOf]; omega
                      · skip
                        have h4' : ¬ (m : Int) - (a' : Int) < (b' : Int) - (m : Int) := by omega
                        have K := IH g o n (m + 1) (b') l2 c d4 _ (by omega) (unhide R7).self hs7 (by omega) (by omega) hn hl2 (below_right (unhide CC))
                        rw [show ((m + 1 : Nat) : Int) = (m : Int) + 1 by omega] at K
                        have KK := hide K
                        clear K
                        go_wp2_with (go_at_call 47; refine (unhide KK).mono ?_; rintro e w8 ⟨rfl, d5, s5, P5, S5, R8⟩)
                        go_roundw
                        case rel => exact ⟨a', m, l2, d5, _, _, rfl, rfl, rfl, rfl, rfl, by omega, by omega, by omega, by omega, s5, below_r (unhide B4) (by omega) (unhide CC) P5, (unhide R7).trans R8, left_r (unhide TB) (by omega) (unhide CC) P5 S5⟩
                        case measure => simp [intOf]; omega
                    · have hb2 := unhide HB rfl
                      rw [unhide HG, unhide HG] at hb2
                      have HB2 := hide hb2
                      clear hb2 HB
                      obtain ⟨p, hp⟩ : ∃ p, p = d3[pv]! := ⟨_, rfl⟩
                      have K := hide (peq56 (a := a') (b := b') (q := pv) c (unhide R6).self s3 hp1 hp2 (by omega) (by omega) hp)
                      have HP := hide hp
                      clear hp
                      go_wp2_with (go_at_call 56; refine (unhide K).mono ?_; rintro e w7 ⟨m, d4, rfl, s4, C4, R4⟩)
                      go_roundw
                      case rel =>
                        have hb2 := unhide HB2
                        exact ⟨m, b', l2, d4, wb, wp, rfl, rfl, rfl, rfl, rfl, by have := C4.h1; omega, C4.h2, hbb, hl2, s4, below_same C4, (unhide R6).trans R4, left_same (unhide TB) (by omega) C4 (by rw [unhide HP]; exact all_ge (unhide B3) hb2.1 hb2.2)⟩
                      case measure => have := C4.h1; have := C4.h2; simp [intOf]; omega

theorem sort39 {g n : Nat} (c : Nat) {d : Array Nat} {w : World} (R : Row w g 0 d w) (hd : d.size = n) (hn : n ≤ 60000) :
    Calls Try.prog 39 #[.slice (some ⟨g, 0, none⟩) n c] w fun e w' => Done w g 0 n 0 n d e w' := by
  have L := hide (fun w => len48 n w (by omega))
  have K := hide (pdq47 (n + 1) g 0 n 0 n (bitLen n) c d w (by omega) R hd (Nat.zero_le _) (Nat.le_refl _) hn (by have := bl_le17 n (by omega); omega) (.inl rfl))
  clear R
  generalize bitLen n = lm at *
  go_enter Try.func39, Try.ntmps39
  go_wp2_with fail
  refine (unhide L _).mono ?_
  rintro e w1 ⟨rfl, rfl⟩
  go_wp2_with fail
  refine (unhide K).mono ?_
  rintro e w2 ⟨rfl, hD⟩
  have HD := hide hD
  clear hD
  go_wp2
  go_end0
  exact ⟨rfl, unhide HD⟩
end Go.Proofs.Ytflmlbdcjjldgaa.QPdq
