/- Contracts: slices.partitionOrdered of uint32. Conditions: the part lies in the row, which is of at most 1000000 numbers; the pivot lies in the part. -/
import Derived.Test.YtflmlbdcjjldgaaQLes
import Derived.Test.YtflmlbdcjjldgaaQMat
import Derived.Deep.CutBlock
namespace Go.Proofs.Ytflmlbdcjjldgaa.QPrt
set_option linter.unusedVariables false
open Go.ChangeShapes Go.WideShapes Go.ChangeAt Go.RowKit Go.Sort Go.Proofs.Ytflmlbdcjjldgaa.Core Go.Proofs.Ytflmlbdcjjldgaa.QNum Go.Proofs.Ytflmlbdcjjldgaa.QLes Go.Proofs.Ytflmlbdcjjldgaa.QMat

set_option maxHeartbeats 6400000 in
set_option maxRecDepth 100000 in
theorem prt57 {g o n a b q p : Nat} (c : Nat) {d : Array Nat} {w : World} (R : Row w g o d w) (hd : d.size = n) (h1 : a ≤ q) (h2 : q < b) (hb : b ≤ n) (hn : n ≤ 1000000) (hpq : p = d[q]!) :
    Calls Try.prog 57 #[.slice (some ⟨g, o, none⟩) n c, .int .i64 a, .int .i64 b, .int .i64 q] w fun e w' => ∃ (m : Nat) (ap : Bool) (d4 : Array Nat), e = .returned (.tuple #[.int .i64 m, .bool ap]) ∧ d4.size = n ∧ Cut a b d m d4 ∧ Row w g o d4 w' := by
  have hPst : Prt cl a b d p (a + 1) (b - 1) (swp d a q) := by rw [hpq]; exact Prt.start h1 h2 (by omega)
  obtain ⟨G0, hG0⟩ : ∃ G : Nat → Nat, ∀ t, G t = d[t]! := ⟨fun t => d[t]!, fun _ => rfl⟩
  have hc0 : ∀ t, t < n → w.cell? ⟨g, o + t, none⟩ = some (.int .u32 (G0 t : Nat)) := fun t ht => by rw [hG0]; exact R.cell t (by omega)
  have hf0 : ∀ t, t < n → w.frozen? ⟨g, o + t, none⟩ = false := fun t ht => R.free t (by omega)
  have HG0 := hide hG0
  have R0 := hide R
  have HPQ := hide hpq
  clear R hG0 hpq
  go_enter Try.func57, Try.ntmps57
  go_wp2
  rcases Nat.lt_or_ge a q with haq | haq
  · have haq' : (a : Int) < (q : Int) := by omega
    obtain ⟨i, hi⟩ : ∃ i : Nat, i = a + 1 := ⟨_, rfl⟩
    obtain ⟨j, hj⟩ : ∃ j : Nat, j = b - 1 := ⟨_, rfl⟩
    have ei : (a : Int) + 1 = (i : Int) := by omega
    have ej : (b : Int) - 1 = (j : Int) := by omega
    have HII := hide hi
    have HJJ := hide hj
    clear hi hj
    go_region
    all_goals go_upto_block 0 with fail
    have RA := ((unhide R0).drewN 1).swp a q (by omega) (by omega)
    rw [← unhide HG0 a, ← unhide HG0 q] at RA
    have RA := hide RA
    clear hc0 hf0
    obtain ⟨dk, hdk⟩ : ∃ dk, dk = swp d a q := ⟨_, rfl⟩
    have PS := hide (p := Prt cl a b d p i j dk) (by rw [hdk, unhide HII, unhide HJJ]; exact hPst)
    have RS := hide (p := Row w g o dk _) (by rw [hdk]; exact unhide RA)
    have hsk : dk.size = n := by rw [hdk, size_swp]; exact hd
    clear hPst RA hdk
    obtain ⟨i0, hi0⟩ : ∃ i0 : Nat, i0 = i := ⟨_, rfl⟩
    subst hi0
    go_upto_block 0 with fail
    go_cut [10] from 30 to 45 (fun v wc => ∃ i : Nat, v = .int .i64 i ∧ i0 ≤ i ∧ Prt cl a b d p i j dk ∧ (i ≤ j → cl dk[i]! p = false) ∧ Row w g o dk wc)
    case first =>
      go_wp2_with fail
      go_loopw [10] (fun v wr => ∃ i : Nat, v = .int .i64 i ∧ i0 ≤ i ∧ Prt cl a b d p i j dk ∧ Row w g o dk wr) (fun v _ => j + 1 - (intOf v).toNat)
      case atStart => exact ⟨_, rfl, Nat.le_refl _, unhide PS, unhide RS⟩
      case round =>
        obtain ⟨i, rfl, hii, hP, hR⟩ := hrel
        have hsz : dk.size = n := hsk
        obtain ⟨G, hG⟩ : ∃ G : Nat → Nat, ∀ t, G t = dk[t]! := ⟨fun t => dk[t]!, fun _ => rfl⟩
        have hga : G a = p := by rw [hG]; exact hP.piv
        have hcw : ∀ t, t < n → wr.cell? ⟨g, o + t, none⟩ = some (.int .u32 (G t : Nat)) := fun t ht => by rw [hG]; exact hR.cell t (by omega)
        have hfw : ∀ t, t < n → wr.frozen? ⟨g, o + t, none⟩ = false := fun t ht => hR.free t (by omega)
        have ba := hP.ha
        have bj := hP.hjb
        have bi := hP.hij
        have HGA := hide hga
        have PP := hide hP
        have RR := hide hR
        have HG := hide hG
        clear hga hP hR hG
        by_cases hij : i ≤ j
        · have hij' : (i : Int) ≤ (j : Int) := by omega
          go_wp2_with fail
          go_quiet (first | (go_at_call 55; refine Calls.quiet_of_same (less55 _ _ _)))
          go_wp2
          · have hl : cl (G i) (G a) = true := by assumption
            go_roundw
            case rel => exact ⟨i + 1, by go_num, by omega, (unhide PP).up hij (by rw [← unhide HG i, ← unhide HGA]; exact hl), (unhide RR).drewN _⟩
            case measure => simp [intOf]; omega
          · have hl : cl (G i) (G a) = false := by assumption
            go_meet
            case rel => exact ⟨i, rfl, hii, unhide PP, fun _ => (by rw [← unhide HG i, ← unhide HGA]; exact hl), (unhide RR).drewN _⟩
        · have hij' : ¬ (i : Int) ≤ (j : Int) := by omega
          go_wp2_with fail
          go_quiet (first | (go_at_call 55; refine Calls.quiet_of_same (less55 _ _ _)))
          go_wp2
          go_meet
          case rel => exact ⟨i, rfl, hii, unhide PP, fun h => absurd h hij, (unhide RR).drewN _⟩
    case rest =>
      obtain ⟨i, rfl, hii, hP1, hs1, hR1⟩ := hcut
      have PS := hide hP1
      have RS := hide hR1
      have S1 := hide hs1
      clear hP1 hR1 hs1
      obtain ⟨j0, hj0⟩ : ∃ j0 : Nat, j0 = j := ⟨_, rfl⟩
      subst hj0
      go_upto_block 2 with fail
      go_cut [11] from 46 to 62 (fun v wc => ∃ j : Nat, v = .int .i64 j ∧ j ≤ j0 ∧ Prt cl a b d p i j dk ∧ (i ≤ j → cl dk[j]! p = true) ∧ Row w g o dk wc)
      case first =>
        go_wp2_with fail
        go_loopw [11] (fun v wr => ∃ j : Nat, v = .int .i64 j ∧ j ≤ j0 ∧ Prt cl a b d p i j dk ∧ Row w g o dk wr) (fun v _ => (intOf v).toNat)
        case atStart => exact ⟨_, rfl, Nat.le_refl _, unhide PS, unhide RS⟩
        case round =>
          obtain ⟨j, rfl, hjj, hP, hR⟩ := hrel
          have hsz : dk.size = n := hsk
          obtain ⟨G, hG⟩ : ∃ G : Nat → Nat, ∀ t, G t = dk[t]! := ⟨fun t => dk[t]!, fun _ => rfl⟩
          have hga : G a = p := by rw [hG]; exact hP.piv
          have hcw : ∀ t, t < n → wr.cell? ⟨g, o + t, none⟩ = some (.int .u32 (G t : Nat)) := fun t ht => by rw [hG]; exact hR.cell t (by omega)
          have hfw : ∀ t, t < n → wr.frozen? ⟨g, o + t, none⟩ = false := fun t ht => hR.free t (by omega)
          have ba := hP.ha
          have bj := hP.hjb
          have bi := hP.hij
          have HGA := hide hga
          have PP := hide hP
          have RR := hide hR
          have HG := hide hG
          clear hga hP hR hG
          by_cases hij : i ≤ j
          · have hij' : (i : Int) ≤ (j : Int) := by omega
            go_wp2_with fail
            go_quiet (first | (go_at_call 55; refine Calls.quiet_of_same (less55 _ _ _)))
            go_wp2
            · have hl : cl (G j) (G a) = false := nt (by assumption)
              go_roundw
              case rel => exact ⟨j - 1, by congr 1; omega, by omega, (unhide PP).down hij (by rw [← unhide HG j, ← unhide HGA]; exact hl), (unhide RR).drewN _⟩
              case measure => simp [intOf]; omega
            · have hl : cl (G j) (G a) = true := nf (by assumption)
              go_meet
              case rel => exact ⟨j, rfl, hjj, unhide PP, fun _ => (by rw [← unhide HG j, ← unhide HGA]; exact hl), (unhide RR).drewN _⟩
          · have hij' : ¬ (i : Int) ≤ (j : Int) := by omega
            go_wp2_with fail
            go_quiet (first | (go_at_call 55; refine Calls.quiet_of_same (less55 _ _ _)))
            go_wp2
            go_meet
            case rel => exact ⟨j, rfl, hjj, unhide PP, fun h => absurd h hij, (unhide RR).drewN _⟩
      case rest =>
        obtain ⟨j, rfl, hjj, hP, hs2, hR⟩ := hcut
        have S2 := hide hs2
        clear hs2
        generalize wc = wr at *
        obtain ⟨G, hG⟩ : ∃ G : Nat → Nat, ∀ t, G t = dk[t]! := ⟨fun t => dk[t]!, fun _ => rfl⟩
        have hga : G a = p := by rw [hG]; exact hP.piv
        have hcw : ∀ t, t < n → wr.cell? ⟨g, o + t, none⟩ = some (.int .u32 (G t : Nat)) := fun t ht => by rw [hG]; exact hR.cell t (by omega)
        have hfw : ∀ t, t < n → wr.frozen? ⟨g, o + t, none⟩ = false := fun t ht => hR.free t (by omega)
        have ba := hP.ha
        have bj := hP.hjb
        have bi := hP.hij
        have HGA := hide hga
        have PP := hide hP
        have RR := hide hR
        have HG := hide hG
        clear hga hP hR hG
        by_cases hij : i ≤ j
        · have hij' : (i : Int) ≤ (j : Int) := by omega
          have hbz : decide ((j : Int) < (i : Int)) = false := decide_eq_false (by omega)
          have hby : decide (j < i) = false := decide_eq_false (by omega)
          have hne : i ≠ j := fun e => by
            have q1 := unhide S1 (by omega)
            have q2 := unhide S2 (by omega)
            rw [e, q2] at q1
            cases q1
          have hlt : i < j := by omega
          go_wp2_with fail
          go_region
          all_goals go_wp2_with fail
          have PQ := hide ((unhide PP).swap (by omega) (unhide S1 (by omega)) (unhide S2 (by omega)))
          have RQ := ((unhide RR).drewN 1).swp i j (by omega) (by omega)
          rw [← unhide HG i, ← unhide HG j] at RQ
          have RQ := hide RQ
          have EJ := hide (show ((j : Int) - 1) = ((j - 1 : Nat) : Int) by omega)
          clear hcw hfw PP RR PS RS S1 S2 hij hij' hlt hne
          go_loopw [10, 11] (fun vi vj wr => ∃ (i j : Nat) (dk : Array Nat), vi = .int .i64 i ∧ vj = .int .i64 j ∧ dk.size = n ∧ Prt cl a b d p i j dk ∧ Row w g o dk wr) (fun vi vj _ => (intOf vj + 1 - intOf vi).toNat)
          case atStart => exact ⟨i + 1, j - 1, swp dk i j, by go_num, congrArg (Value.int .i64) (unhide EJ), by rw [size_swp]; exact hsk, unhide PQ, unhide RQ⟩
          case round =>
            clear PQ RQ
            obtain ⟨i, j, dk, rfl, rfl, hsk, hP, hR⟩ := hrel
            have PS := hide hP
            have RS := hide hR
            clear hP hR
            obtain ⟨i0, hi0⟩ : ∃ i0 : Nat, i0 = i := ⟨_, rfl⟩
            subst hi0
            go_upto_block 6 with fail
            go_cut [10] from 99 to 114 (fun v wc => ∃ i : Nat, v = .int .i64 i ∧ i0 ≤ i ∧ Prt cl a b d p i j dk ∧ (i ≤ j → cl dk[i]! p = false) ∧ Row w g o dk wc)
            case first =>
              go_wp2_with fail
              go_loopw [10] (fun v wr => ∃ i : Nat, v = .int .i64 i ∧ i0 ≤ i ∧ Prt cl a b d p i j dk ∧ Row w g o dk wr) (fun v _ => j + 1 - (intOf v).toNat)
              case atStart => exact ⟨_, rfl, Nat.le_refl _, unhide PS, unhide RS⟩
              case round =>
                obtain ⟨i, rfl, hii, hP, hR⟩ := hrel
                have hsz : dk.size = n := hsk
                obtain ⟨G, hG⟩ : ∃ G : Nat → Nat, ∀ t, G t = dk[t]! := ⟨fun t => dk[t]!, fun _ => rfl⟩
                have hga : G a = p := by rw [hG]; exact hP.piv
                have hcw : ∀ t, t < n → wr.cell? ⟨g, o + t, none⟩ = some (.int .u32 (G t : Nat)) := fun t ht => by rw [hG]; exact hR.cell t (by omega)
                have hfw : ∀ t, t < n → wr.frozen? ⟨g, o + t, none⟩ = false := fun t ht => hR.free t (by omega)
                have ba := hP.ha
                have bj := hP.hjb
                have bi := hP.hij
                have HGA := hide hga
                have PP := hide hP
                have RR := hide hR
                have HG := hide hG
                clear hga hP hR hG
                by_cases hij : i ≤ j
                · have hij' : (i : Int) ≤ (j : Int) := by omega
                  go_wp2_with fail
                  go_quiet (first | (go_at_call 55; refine Calls.quiet_of_same (less55 _ _ _)))
                  go_wp2
                  · have hl : cl (G i) (G a) = true := by assumption
                    go_roundw
                    case rel => exact ⟨i + 1, by go_num, by omega, (unhide PP).up hij (by rw [← unhide HG i, ← unhide HGA]; exact hl), (unhide RR).drewN _⟩
                    case measure => simp [intOf]; omega
                  · have hl : cl (G i) (G a) = false := by assumption
                    go_meet
                    case rel => exact ⟨i, rfl, hii, unhide PP, fun _ => (by rw [← unhide HG i, ← unhide HGA]; exact hl), (unhide RR).drewN _⟩
                · have hij' : ¬ (i : Int) ≤ (j : Int) := by omega
                  go_wp2_with fail
                  go_quiet (first | (go_at_call 55; refine Calls.quiet_of_same (less55 _ _ _)))
                  go_wp2
                  go_meet
                  case rel => exact ⟨i, rfl, hii, unhide PP, fun h => absurd h hij, (unhide RR).drewN _⟩
            case rest =>
              obtain ⟨i, rfl, hii, hP1, hs1, hR1⟩ := hcut
              have PS := hide hP1
              have RS := hide hR1
              have S1 := hide hs1
              clear hP1 hR1 hs1
              obtain ⟨j0, hj0⟩ : ∃ j0 : Nat, j0 = j := ⟨_, rfl⟩
              subst hj0
              go_upto_block 8 with fail
              go_cut [11] from 115 to 131 (fun v wc => ∃ j : Nat, v = .int .i64 j ∧ j ≤ j0 ∧ Prt cl a b d p i j dk ∧ (i ≤ j → cl dk[j]! p = true) ∧ Row w g o dk wc)
              case first =>
                go_wp2_with fail
                go_loopw [11] (fun v wr => ∃ j : Nat, v = .int .i64 j ∧ j ≤ j0 ∧ Prt cl a b d p i j dk ∧ Row w g o dk wr) (fun v _ => (intOf v).toNat)
                case atStart => exact ⟨_, rfl, Nat.le_refl _, unhide PS, unhide RS⟩
                case round =>
                  obtain ⟨j, rfl, hjj, hP, hR⟩ := hrel
                  have hsz : dk.size = n := hsk
                  obtain ⟨G, hG⟩ : ∃ G : Nat → Nat, ∀ t, G t = dk[t]! := ⟨fun t => dk[t]!, fun _ => rfl⟩
                  have hga : G a = p := by rw [hG]; exact hP.piv
                  have hcw : ∀ t, t < n → wr.cell? ⟨g, o + t, none⟩ = some (.int .u32 (G t : Nat)) := fun t ht => by rw [hG]; exact hR.cell t (by omega)
                  have hfw : ∀ t, t < n → wr.frozen? ⟨g, o + t, none⟩ = false := fun t ht => hR.free t (by omega)
                  have ba := hP.ha
                  have bj := hP.hjb
                  have bi := hP.hij
                  have HGA := hide hga
                  have PP := hide hP
                  have RR := hide hR
                  have HG := hide hG
                  clear hga hP hR hG
                  by_cases hij : i ≤ j
                  · have hij' : (i : Int) ≤ (j : Int) := by omega
                    go_wp2_with fail
                    go_quiet (first | (go_at_call 55; refine Calls.quiet_of_same (less55 _ _ _)))
                    go_wp2
                    · have hl : cl (G j) (G a) = false := nt (by assumption)
                      go_roundw
                      case rel => exact ⟨j - 1, by congr 1; omega, by omega, (unhide PP).down hij (by rw [← unhide HG j, ← unhide HGA]; exact hl), (unhide RR).drewN _⟩
                      case measure => simp [intOf]; omega
                    · have hl : cl (G j) (G a) = true := nf (by assumption)
                      go_meet
                      case rel => exact ⟨j, rfl, hjj, unhide PP, fun _ => (by rw [← unhide HG j, ← unhide HGA]; exact hl), (unhide RR).drewN _⟩
                  · have hij' : ¬ (i : Int) ≤ (j : Int) := by omega
                    go_wp2_with fail
                    go_quiet (first | (go_at_call 55; refine Calls.quiet_of_same (less55 _ _ _)))
                    go_wp2
                    go_meet
                    case rel => exact ⟨j, rfl, hjj, unhide PP, fun h => absurd h hij, (unhide RR).drewN _⟩
              case rest =>
                obtain ⟨j, rfl, hjj, hP, hs2, hR⟩ := hcut
                have S2 := hide hs2
                clear hs2
                generalize wc = wr at *
                obtain ⟨G, hG⟩ : ∃ G : Nat → Nat, ∀ t, G t = dk[t]! := ⟨fun t => dk[t]!, fun _ => rfl⟩
                have hga : G a = p := by rw [hG]; exact hP.piv
                have hcw : ∀ t, t < n → wr.cell? ⟨g, o + t, none⟩ = some (.int .u32 (G t : Nat)) := fun t ht => by rw [hG]; exact hR.cell t (by omega)
                have hfw : ∀ t, t < n → wr.frozen? ⟨g, o + t, none⟩ = false := fun t ht => hR.free t (by omega)
                have ba := hP.ha
                have bj := hP.hjb
                have bi := hP.hij
                have HGA := hide hga
                have PP := hide hP
                have RR := hide hR
                have HG := hide hG
                clear hga hP hR hG
                by_cases hij : i ≤ j
                · have hij' : (i : Int) ≤ (j : Int) := by omega
                  have hne : i ≠ j := fun e => by
                    have q1 := unhide S1 (by omega)
                    have q2 := unhide S2 (by omega)
                    rw [e, q2] at q1
                    cases q1
                  have hlt : i < j := by omega
                  go_wp2_with fail
                  go_region
                  all_goals go_wp2
                  go_roundw
                  case rel =>
                    refine ⟨i + 1, j - 1, swp dk i j, by go_num, by congr 1; omega, by rw [size_swp]; exact hsk, (unhide PP).swap (by omega) (unhide S1 (by omega)) (unhide S2 (by omega)), ?_⟩
                    have := ((unhide RR).drewN 1).swp i j (by omega) (by omega)
                    rw [← unhide HG i, ← unhide HG j] at this
                    exact this
                  case measure => simp [intOf]; omega
                · have hij : j < i := by omega
                  have hij' : (j : Int) < (i : Int) := by omega
                  rcases Nat.lt_or_ge a j with hja | hja
                  · have hja' : (a : Int) < (j : Int) := by omega
                    go_wp2_with fail
                    go_region
                    all_goals go_wp2
                    go_ret2
                    refine ⟨j, false, swp dk j a, rfl, by rw [size_swp]; exact hsk, (unhide PP).cut hij, ?_⟩
                    have := ((unhide RR).drewN 1).swp j a (by omega) (by omega)
                    rw [← unhide HG j, ← unhide HG a] at this
                    exact this
                  · obtain rfl : j = a := by omega
                    go_wp2_with fail
                    go_region
                    all_goals go_wp2
                    go_ret2
                    refine ⟨j, false, swp dk j j, rfl, by rw [size_swp]; exact hsk, (unhide PP).cut hij, ?_⟩
                    have := ((unhide RR).drewN 1).swp j j (by omega) (by omega)
                    rw [← unhide HG j] at this
                    exact this
        · have hij : j < i := by omega
          have hij' : (j : Int) < (i : Int) := by omega
          rcases Nat.lt_or_ge a j with hja | hja
          · have hja' : (a : Int) < (j : Int) := by omega
            go_wp2_with fail
            go_region
            all_goals go_wp2
            go_ret2
            refine ⟨j, true, swp dk j a, rfl, by rw [size_swp]; exact hsk, (unhide PP).cut hij, ?_⟩
            have := ((unhide RR).drewN 1).swp j a (by omega) (by omega)
            rw [← unhide HG j, ← unhide HG a] at this
            exact this
          · obtain rfl : j = a := by omega
            go_wp2_with fail
            go_region
            all_goals go_wp2
            go_ret2
            refine ⟨j, true, swp dk j j, rfl, by rw [size_swp]; exact hsk, (unhide PP).cut hij, ?_⟩
            have := ((unhide RR).drewN 1).swp j j (by omega) (by omega)
            rw [← unhide HG j] at this
            exact this
  · obtain hq : q = a := by omega
    subst hq
    obtain ⟨i, hi⟩ : ∃ i : Nat, i = q + 1 := ⟨_, rfl⟩
    obtain ⟨j, hj⟩ : ∃ j : Nat, j = b - 1 := ⟨_, rfl⟩
    have ei : (q : Int) + 1 = (i : Int) := by omega
    have ej : (b : Int) - 1 = (j : Int) := by omega
    have HII := hide hi
    have HJJ := hide hj
    clear hi hj
    go_region
    all_goals go_upto_block 0 with fail
    have RA := ((unhide R0).drewN 1).swp q q (by omega) (by omega)
    rw [← unhide HG0 q] at RA
    have RA := hide RA
    clear hc0 hf0
    obtain ⟨dk, hdk⟩ : ∃ dk, dk = swp d q q := ⟨_, rfl⟩
    have PS := hide (p := Prt cl q b d p i j dk) (by rw [hdk, unhide HII, unhide HJJ]; exact hPst)
    have RS := hide (p := Row w g o dk _) (by rw [hdk]; exact unhide RA)
    have hsk : dk.size = n := by rw [hdk, size_swp]; exact hd
    clear hPst RA hdk
    obtain ⟨i0, hi0⟩ : ∃ i0 : Nat, i0 = i := ⟨_, rfl⟩
    subst hi0
    go_upto_block 0 with fail
    go_cut [10] from 30 to 45 (fun v wc => ∃ i : Nat, v = .int .i64 i ∧ i0 ≤ i ∧ Prt cl q b d p i j dk ∧ (i ≤ j → cl dk[i]! p = false) ∧ Row w g o dk wc)
    case first =>
      go_wp2_with fail
      go_loopw [10] (fun v wr => ∃ i : Nat, v = .int .i64 i ∧ i0 ≤ i ∧ Prt cl q b d p i j dk ∧ Row w g o dk wr) (fun v _ => j + 1 - (intOf v).toNat)
      case atStart => exact ⟨_, rfl, Nat.le_refl _, unhide PS, unhide RS⟩
      case round =>
        obtain ⟨i, rfl, hii, hP, hR⟩ := hrel
        have hsz : dk.size = n := hsk
        obtain ⟨G, hG⟩ : ∃ G : Nat → Nat, ∀ t, G t = dk[t]! := ⟨fun t => dk[t]!, fun _ => rfl⟩
        have hga : G q = p := by rw [hG]; exact hP.piv
        have hcw : ∀ t, t < n → wr.cell? ⟨g, o + t, none⟩ = some (.int .u32 (G t : Nat)) := fun t ht => by rw [hG]; exact hR.cell t (by omega)
        have hfw : ∀ t, t < n → wr.frozen? ⟨g, o + t, none⟩ = false := fun t ht => hR.free t (by omega)
        have ba := hP.ha
        have bj := hP.hjb
        have bi := hP.hij
        have HGA := hide hga
        have PP := hide hP
        have RR := hide hR
        have HG := hide hG
        clear hga hP hR hG
        by_cases hij : i ≤ j
        · have hij' : (i : Int) ≤ (j : Int) := by omega
          go_wp2_with fail
          go_quiet (first | (go_at_call 55; refine Calls.quiet_of_same (less55 _ _ _)))
          go_wp2
          · have hl : cl (G i) (G q) = true := by assumption
            go_roundw
            case rel => exact ⟨i + 1, by go_num, by omega, (unhide PP).up hij (by rw [← unhide HG i, ← unhide HGA]; exact hl), (unhide RR).drewN _⟩
            case measure => simp [intOf]; omega
          · have hl : cl (G i) (G q) = false := by assumption
            go_meet
            case rel => exact ⟨i, rfl, hii, unhide PP, fun _ => (by rw [← unhide HG i, ← unhide HGA]; exact hl), (unhide RR).drewN _⟩
        · have hij' : ¬ (i : Int) ≤ (j : Int) := by omega
          go_wp2_with fail
          go_quiet (first | (go_at_call 55; refine Calls.quiet_of_same (less55 _ _ _)))
          go_wp2
          go_meet
          case rel => exact ⟨i, rfl, hii, unhide PP, fun h => absurd h hij, (unhide RR).drewN _⟩
    case rest =>
      obtain ⟨i, rfl, hii, hP1, hs1, hR1⟩ := hcut
      have PS := hide hP1
      have RS := hide hR1
      have S1 := hide hs1
      clear hP1 hR1 hs1
      obtain ⟨j0, hj0⟩ : ∃ j0 : Nat, j0 = j := ⟨_, rfl⟩
      subst hj0
      go_upto_block 2 with fail
      go_cut [11] from 46 to 62 (fun v wc => ∃ j : Nat, v = .int .i64 j ∧ j ≤ j0 ∧ Prt cl q b d p i j dk ∧ (i ≤ j → cl dk[j]! p = true) ∧ Row w g o dk wc)
      case first =>
        go_wp2_with fail
        go_loopw [11] (fun v wr => ∃ j : Nat, v = .int .i64 j ∧ j ≤ j0 ∧ Prt cl q b d p i j dk ∧ Row w g o dk wr) (fun v _ => (intOf v).toNat)
        case atStart => exact ⟨_, rfl, Nat.le_refl _, unhide PS, unhide RS⟩
        case round =>
          obtain ⟨j, rfl, hjj, hP, hR⟩ := hrel
          have hsz : dk.size = n := hsk
          obtain ⟨G, hG⟩ : ∃ G : Nat → Nat, ∀ t, G t = dk[t]! := ⟨fun t => dk[t]!, fun _ => rfl⟩
          have hga : G q = p := by rw [hG]; exact hP.piv
          have hcw : ∀ t, t < n → wr.cell? ⟨g, o + t, none⟩ = some (.int .u32 (G t : Nat)) := fun t ht => by rw [hG]; exact hR.cell t (by omega)
          have hfw : ∀ t, t < n → wr.frozen? ⟨g, o + t, none⟩ = false := fun t ht => hR.free t (by omega)
          have ba := hP.ha
          have bj := hP.hjb
          have bi := hP.hij
          have HGA := hide hga
          have PP := hide hP
          have RR := hide hR
          have HG := hide hG
          clear hga hP hR hG
          by_cases hij : i ≤ j
          · have hij' : (i : Int) ≤ (j : Int) := by omega
            go_wp2_with fail
            go_quiet (first | (go_at_call 55; refine Calls.quiet_of_same (less55 _ _ _)))
            go_wp2
            · have hl : cl (G j) (G q) = false := nt (by assumption)
              go_roundw
              case rel => exact ⟨j - 1, by congr 1; omega, by omega, (unhide PP).down hij (by rw [← unhide HG j, ← unhide HGA]; exact hl), (unhide RR).drewN _⟩
              case measure => simp [intOf]; omega
            · have hl : cl (G j) (G q) = true := nf (by assumption)
              go_meet
              case rel => exact ⟨j, rfl, hjj, unhide PP, fun _ => (by rw [← unhide HG j, ← unhide HGA]; exact hl), (unhide RR).drewN _⟩
          · have hij' : ¬ (i : Int) ≤ (j : Int) := by omega
            go_wp2_with fail
            go_quiet (first | (go_at_call 55; refine Calls.quiet_of_same (less55 _ _ _)))
            go_wp2
            go_meet
            case rel => exact ⟨j, rfl, hjj, unhide PP, fun h => absurd h hij, (unhide RR).drewN _⟩
      case rest =>
        obtain ⟨j, rfl, hjj, hP, hs2, hR⟩ := hcut
        have S2 := hide hs2
        clear hs2
        generalize wc = wr at *
        obtain ⟨G, hG⟩ : ∃ G : Nat → Nat, ∀ t, G t = dk[t]! := ⟨fun t => dk[t]!, fun _ => rfl⟩
        have hga : G q = p := by rw [hG]; exact hP.piv
        have hcw : ∀ t, t < n → wr.cell? ⟨g, o + t, none⟩ = some (.int .u32 (G t : Nat)) := fun t ht => by rw [hG]; exact hR.cell t (by omega)
        have hfw : ∀ t, t < n → wr.frozen? ⟨g, o + t, none⟩ = false := fun t ht => hR.free t (by omega)
        have ba := hP.ha
        have bj := hP.hjb
        have bi := hP.hij
        have HGA := hide hga
        have PP := hide hP
        have RR := hide hR
        have HG := hide hG
        clear hga hP hR hG
        by_cases hij : i ≤ j
        · have hij' : (i : Int) ≤ (j : Int) := by omega
          have hbz : decide ((j : Int) < (i : Int)) = false := decide_eq_false (by omega)
          have hby : decide (j < i) = false := decide_eq_false (by omega)
          have hne : i ≠ j := fun e => by
            have q1 := unhide S1 (by omega)
            have q2 := unhide S2 (by omega)
            rw [e, q2] at q1
            cases q1
          have hlt : i < j := by omega
          go_wp2_with fail
          go_region
          all_goals go_wp2_with fail
          have PQ := hide ((unhide PP).swap (by omega) (unhide S1 (by omega)) (unhide S2 (by omega)))
          have RQ := ((unhide RR).drewN 1).swp i j (by omega) (by omega)
          rw [← unhide HG i, ← unhide HG j] at RQ
          have RQ := hide RQ
          have EJ := hide (show ((j : Int) - 1) = ((j - 1 : Nat) : Int) by omega)
          clear hcw hfw PP RR PS RS S1 S2 hij hij' hlt hne
          go_loopw [10, 11] (fun vi vj wr => ∃ (i j : Nat) (dk : Array Nat), vi = .int .i64 i ∧ vj = .int .i64 j ∧ dk.size = n ∧ Prt cl q b d p i j dk ∧ Row w g o dk wr) (fun vi vj _ => (intOf vj + 1 - intOf vi).toNat)
          case atStart => exact ⟨i + 1, j - 1, swp dk i j, by go_num, congrArg (Value.int .i64) (unhide EJ), by rw [size_swp]; exact hsk, unhide PQ, unhide RQ⟩
          case round =>
            clear PQ RQ
            obtain ⟨i, j, dk, rfl, rfl, hsk, hP, hR⟩ := hrel
            have PS := hide hP
            have RS := hide hR
            clear hP hR
            obtain ⟨i0, hi0⟩ : ∃ i0 : Nat, i0 = i := ⟨_, rfl⟩
            subst hi0
            go_upto_block 6 with fail
            go_cut [10] from 99 to 114 (fun v wc => ∃ i : Nat, v = .int .i64 i ∧ i0 ≤ i ∧ Prt cl q b d p i j dk ∧ (i ≤ j → cl dk[i]! p = false) ∧ Row w g o dk wc)
            case first =>
              go_wp2_with fail
              go_loopw [10] (fun v wr => ∃ i : Nat, v = .int .i64 i ∧ i0 ≤ i ∧ Prt cl q b d p i j dk ∧ Row w g o dk wr) (fun v _ => j + 1 - (intOf v).toNat)
              case atStart => exact ⟨_, rfl, Nat.le_refl _, unhide PS, unhide RS⟩
              case round =>
                obtain ⟨i, rfl, hii, hP, hR⟩ := hrel
                have hsz : dk.size = n := hsk
                obtain ⟨G, hG⟩ : ∃ G : Nat → Nat, ∀ t, G t = dk[t]! := ⟨fun t => dk[t]!, fun _ => rfl⟩
                have hga : G q = p := by rw [hG]; exact hP.piv
                have hcw : ∀ t, t < n → wr.cell? ⟨g, o + t, none⟩ = some (.int .u32 (G t : Nat)) := fun t ht => by rw [hG]; exact hR.cell t (by omega)
                have hfw : ∀ t, t < n → wr.frozen? ⟨g, o + t, none⟩ = false := fun t ht => hR.free t (by omega)
                have ba := hP.ha
                have bj := hP.hjb
                have bi := hP.hij
                have HGA := hide hga
                have PP := hide hP
                have RR := hide hR
                have HG := hide hG
                clear hga hP hR hG
                by_cases hij : i ≤ j
                · have hij' : (i : Int) ≤ (j : Int) := by omega
                  go_wp2_with fail
                  go_quiet (first | (go_at_call 55; refine Calls.quiet_of_same (less55 _ _ _)))
                  go_wp2
                  · have hl : cl (G i) (G q) = true := by assumption
                    go_roundw
                    case rel => exact ⟨i + 1, by go_num, by omega, (unhide PP).up hij (by rw [← unhide HG i, ← unhide HGA]; exact hl), (unhide RR).drewN _⟩
                    case measure => simp [intOf]; omega
                  · have hl : cl (G i) (G q) = false := by assumption
                    go_meet
                    case rel => exact ⟨i, rfl, hii, unhide PP, fun _ => (by rw [← unhide HG i, ← unhide HGA]; exact hl), (unhide RR).drewN _⟩
                · have hij' : ¬ (i : Int) ≤ (j : Int) := by omega
                  go_wp2_with fail
                  go_quiet (first | (go_at_call 55; refine Calls.quiet_of_same (less55 _ _ _)))
                  go_wp2
                  go_meet
                  case rel => exact ⟨i, rfl, hii, unhide PP, fun h => absurd h hij, (unhide RR).drewN _⟩
            case rest =>
              obtain ⟨i, rfl, hii, hP1, hs1, hR1⟩ := hcut
              have PS := hide hP1
              have RS := hide hR1
              have S1 := hide hs1
              clear hP1 hR1 hs1
              obtain ⟨j0, hj0⟩ : ∃ j0 : Nat, j0 = j := ⟨_, rfl⟩
              subst hj0
              go_upto_block 8 with fail
              go_cut [11] from 115 to 131 (fun v wc => ∃ j : Nat, v = .int .i64 j ∧ j ≤ j0 ∧ Prt cl q b d p i j dk ∧ (i ≤ j → cl dk[j]! p = true) ∧ Row w g o dk wc)
              case first =>
                go_wp2_with fail
                go_loopw [11] (fun v wr => ∃ j : Nat, v = .int .i64 j ∧ j ≤ j0 ∧ Prt cl q b d p i j dk ∧ Row w g o dk wr) (fun v _ => (intOf v).toNat)
                case atStart => exact ⟨_, rfl, Nat.le_refl _, unhide PS, unhide RS⟩
                case round =>
                  obtain ⟨j, rfl, hjj, hP, hR⟩ := hrel
                  have hsz : dk.size = n := hsk
                  obtain ⟨G, hG⟩ : ∃ G : Nat → Nat, ∀ t, G t = dk[t]! := ⟨fun t => dk[t]!, fun _ => rfl⟩
                  have hga : G q = p := by rw [hG]; exact hP.piv
                  have hcw : ∀ t, t < n → wr.cell? ⟨g, o + t, none⟩ = some (.int .u32 (G t : Nat)) := fun t ht => by rw [hG]; exact hR.cell t (by omega)
                  have hfw : ∀ t, t < n → wr.frozen? ⟨g, o + t, none⟩ = false := fun t ht => hR.free t (by omega)
                  have ba := hP.ha
                  have bj := hP.hjb
                  have bi := hP.hij
                  have HGA := hide hga
                  have PP := hide hP
                  have RR := hide hR
                  have HG := hide hG
                  clear hga hP hR hG
                  by_cases hij : i ≤ j
                  · have hij' : (i : Int) ≤ (j : Int) := by omega
                    go_wp2_with fail
                    go_quiet (first | (go_at_call 55; refine Calls.quiet_of_same (less55 _ _ _)))
                    go_wp2
                    · have hl : cl (G j) (G q) = false := nt (by assumption)
                      go_roundw
                      case rel => exact ⟨j - 1, by congr 1; omega, by omega, (unhide PP).down hij (by rw [← unhide HG j, ← unhide HGA]; exact hl), (unhide RR).drewN _⟩
                      case measure => simp [intOf]; omega
                    · have hl : cl (G j) (G q) = true := nf (by assumption)
                      go_meet
                      case rel => exact ⟨j, rfl, hjj, unhide PP, fun _ => (by rw [← unhide HG j, ← unhide HGA]; exact hl), (unhide RR).drewN _⟩
                  · have hij' : ¬ (i : Int) ≤ (j : Int) := by omega
                    go_wp2_with fail
                    go_quiet (first | (go_at_call 55; refine Calls.quiet_of_same (less55 _ _ _)))
                    go_wp2
                    go_meet
                    case rel => exact ⟨j, rfl, hjj, unhide PP, fun h => absurd h hij, (unhide RR).drewN _⟩
              case rest =>
                obtain ⟨j, rfl, hjj, hP, hs2, hR⟩ := hcut
                have S2 := hide hs2
                clear hs2
                generalize wc = wr at *
                obtain ⟨G, hG⟩ : ∃ G : Nat → Nat, ∀ t, G t = dk[t]! := ⟨fun t => dk[t]!, fun _ => rfl⟩
                have hga : G q = p := by rw [hG]; exact hP.piv
                have hcw : ∀ t, t < n → wr.cell? ⟨g, o + t, none⟩ = some (.int .u32 (G t : Nat)) := fun t ht => by rw [hG]; exact hR.cell t (by omega)
                have hfw : ∀ t, t < n → wr.frozen? ⟨g, o + t, none⟩ = false := fun t ht => hR.free t (by omega)
                have ba := hP.ha
                have bj := hP.hjb
                have bi := hP.hij
                have HGA := hide hga
                have PP := hide hP
                have RR := hide hR
                have HG := hide hG
                clear hga hP hR hG
                by_cases hij : i ≤ j
                · have hij' : (i : Int) ≤ (j : Int) := by omega
                  have hne : i ≠ j := fun e => by
                    have q1 := unhide S1 (by omega)
                    have q2 := unhide S2 (by omega)
                    rw [e, q2] at q1
                    cases q1
                  have hlt : i < j := by omega
                  go_wp2_with fail
                  go_region
                  all_goals go_wp2
                  go_roundw
                  case rel =>
                    refine ⟨i + 1, j - 1, swp dk i j, by go_num, by congr 1; omega, by rw [size_swp]; exact hsk, (unhide PP).swap (by omega) (unhide S1 (by omega)) (unhide S2 (by omega)), ?_⟩
                    have := ((unhide RR).drewN 1).swp i j (by omega) (by omega)
                    rw [← unhide HG i, ← unhide HG j] at this
                    exact this
                  case measure => simp [intOf]; omega
                · have hij : j < i := by omega
                  have hij' : (j : Int) < (i : Int) := by omega
                  rcases Nat.lt_or_ge q j with hja | hja
                  · have hja' : (q : Int) < (j : Int) := by omega
                    go_wp2_with fail
                    go_region
                    all_goals go_wp2
                    go_ret2
                    refine ⟨j, false, swp dk j q, rfl, by rw [size_swp]; exact hsk, (unhide PP).cut hij, ?_⟩
                    have := ((unhide RR).drewN 1).swp j q (by omega) (by omega)
                    rw [← unhide HG j, ← unhide HG q] at this
                    exact this
                  · obtain rfl : j = q := by omega
                    go_wp2_with fail
                    go_region
                    all_goals go_wp2
                    go_ret2
                    refine ⟨j, false, swp dk j j, rfl, by rw [size_swp]; exact hsk, (unhide PP).cut hij, ?_⟩
                    have := ((unhide RR).drewN 1).swp j j (by omega) (by omega)
                    rw [← unhide HG j] at this
                    exact this
        · have hij : j < i := by omega
          have hij' : (j : Int) < (i : Int) := by omega
          rcases Nat.lt_or_ge q j with hja | hja
          · have hja' : (q : Int) < (j : Int) := by omega
            go_wp2_with fail
            go_region
            all_goals go_wp2
            go_ret2
            refine ⟨j, true, swp dk j q, rfl, by rw [size_swp]; exact hsk, (unhide PP).cut hij, ?_⟩
            have := ((unhide RR).drewN 1).swp j q (by omega) (by omega)
            rw [← unhide HG j, ← unhide HG q] at this
            exact this
          · obtain rfl : j = q := by omega
            go_wp2_with fail
            go_region
            all_goals go_wp2
            go_ret2
            refine ⟨j, true, swp dk j j, rfl, by rw [size_swp]; exact hsk, (unhide PP).cut hij, ?_⟩
            have := ((unhide RR).drewN 1).swp j j (by omega) (by omega)
            rw [← unhide HG j] at this
            exact this
end Go.Proofs.Ytflmlbdcjjldgaa.QPrt
