/- Contracts: slices.partitionEqualOrdered of uint32. Conditions: the part lies in the row, which is of at most 1000000 numbers; the pivot lies in the part. -/
import Derived.Test.YtflmlbdcjjldgaaQLes
import Derived.Test.YtflmlbdcjjldgaaQMat
import Derived.Deep.CutBlock
namespace Go.Proofs.Ytflmlbdcjjldgaa.QPeq
set_option linter.unusedVariables false
open Go.ChangeShapes Go.WideShapes Go.ChangeAt Go.RowKit Go.Sort Go.Proofs.Ytflmlbdcjjldgaa.Core Go.Proofs.Ytflmlbdcjjldgaa.QNum Go.Proofs.Ytflmlbdcjjldgaa.QLes Go.Proofs.Ytflmlbdcjjldgaa.QMat

set_option maxHeartbeats 6400000 in
set_option maxRecDepth 100000 in
theorem peq56 {g o n a b q p : Nat} (c : Nat) {d : Array Nat} {w : World} (R : Row w g o d w) (hd : d.size = n) (h1 : a ≤ q) (h2 : q < b) (hb : b ≤ n) (hn : n ≤ 1000000) (hpq : p = d[q]!) :
    Calls Try.prog 56 #[.slice (some ⟨g, o, none⟩) n c, .int .i64 a, .int .i64 b, .int .i64 q] w fun e w' => ∃ (m : Nat) (d4 : Array Nat), e = .returned (.int .i64 m) ∧ d4.size = n ∧ Same a b d p m d4 ∧ Row w g o d4 w' := by
  have hPst : Prt le2 a b d p (a + 1) (b - 1) (swp d a q) := by rw [hpq]; exact Prt.start h1 h2 (by omega)
  obtain ⟨G0, hG0⟩ : ∃ G : Nat → Nat, ∀ t, G t = d[t]! := ⟨fun t => d[t]!, fun _ => rfl⟩
  have hc0 : ∀ t, t < n → w.cell? ⟨g, o + t, none⟩ = some (.int .u32 (G0 t : Nat)) := fun t ht => by rw [hG0]; exact R.cell t (by omega)
  have hf0 : ∀ t, t < n → w.frozen? ⟨g, o + t, none⟩ = false := fun t ht => R.free t (by omega)
  have HG0 := hide hG0
  have R0 := hide R
  have HPQ := hide hpq
  clear R hG0 hpq
  go_enter Try.func56, Try.ntmps56
  go_wp2
  rcases Nat.lt_or_ge a q with haq | haq
  · have haq' : (a : Int) < (q : Int) := by omega
    go_region
    all_goals go_wp2_with fail
    have RA := ((unhide R0).drewN 1).swp a q (by omega) (by omega)
    rw [← unhide HG0 a, ← unhide HG0 q] at RA
    have RA := hide RA
    clear hc0 hf0
    go_loopw [9, 10] (fun vi vj wr => ∃ (i j : Nat) (dk : Array Nat), vi = .int .i64 i ∧ vj = .int .i64 j ∧ dk.size = n ∧ Prt le2 a b d p i j dk ∧ Row w g o dk wr) (fun vi vj _ => (intOf vj + 1 - intOf vi).toNat)
    case atStart => exact ⟨a + 1, b - 1, swp d a q, by go_num, by congr 1; omega, by rw [size_swp]; exact hd, hPst, unhide RA⟩
    case round =>
      obtain ⟨i, j, dk, rfl, rfl, hsk, hP, hR⟩ := hrel
      have PS := hide hP
      have RS := hide hR
      clear hP hR
      obtain ⟨i0, hi0⟩ : ∃ i0 : Nat, i0 = i := ⟨_, rfl⟩
      subst hi0
      go_upto_block 2 with fail
      go_cut [9] from 29 to 45 (fun v wc => ∃ i : Nat, v = .int .i64 i ∧ i0 ≤ i ∧ Prt le2 a b d p i j dk ∧ (i ≤ j → le2 dk[i]! p = false) ∧ Row w g o dk wc)
      case first =>
        go_wp2_with fail
        go_loopw [9] (fun v wr => ∃ i : Nat, v = .int .i64 i ∧ i0 ≤ i ∧ Prt le2 a b d p i j dk ∧ Row w g o dk wr) (fun v _ => j + 1 - (intOf v).toNat)
        case atStart => exact ⟨_, rfl, Nat.le_refl _, unhide PS, unhide RS⟩
        case round =>
          obtain ⟨i, rfl, hii, hP, hR⟩ := hrel
          have hsz : dk.size = n := hsk
          obtain ⟨G, hG⟩ : ∃ G : Nat → Nat, ∀ t, G t = dk[t]! := ⟨fun t => dk[t]!, fun _ => rfl⟩
          have hga : G a = p := by rw [hG]; exact hP.piv
          have hcw : ∀ t, t < n → wr.cell? ⟨g, o + t, none⟩ = some (.int .u32 (G t : Nat)) := fun t ht => by rw [hG]; exact hR.cell t (by omega)
          have hfw : ∀ t, t < n → wr.frozen? ⟨g, o + t, none⟩ = false := fun t ht => hR.free t (by omega)
          have ba := hP.ha
          have bj := hP.hjb
          have bi := hP.hij
          have HGA := hide hga
          have PP := hide hP
          have RR := hide hR
          have HG := hide hG
          clear hga hP hR hG
          by_cases hij : i ≤ j
          · have hij' : (i : Int) ≤ (j : Int) := by omega
            go_wp2_with fail
            go_quiet (first | (go_at_call 55; refine Calls.quiet_of_same (less55 _ _ _)))
            go_wp2
            · have hl : cl (G a) (G i) = false := nt (by assumption)
              go_roundw
              case rel => exact ⟨i + 1, by go_num, by omega, (unhide PP).up hij (by show (!cl p dk[i]!) = true; rw [← unhide HG i, ← unhide HGA, hl]; rfl), (unhide RR).drewN _⟩
              case measure => simp [intOf]; omega
            · have hl : cl (G a) (G i) = true := nf (by assumption)
              go_meet
              case rel => exact ⟨i, rfl, hii, unhide PP, fun _ => (by show (!cl p dk[i]!) = false; rw [← unhide HG i, ← unhide HGA, hl]; rfl), (unhide RR).drewN _⟩
          · have hij' : ¬ (i : Int) ≤ (j : Int) := by omega
            go_wp2_with fail
            go_quiet (first | (go_at_call 55; refine Calls.quiet_of_same (less55 _ _ _)))
            go_wp2
            go_meet
            case rel => exact ⟨i, rfl, hii, unhide PP, fun h => absurd h hij, (unhide RR).drewN _⟩
      case rest =>
        obtain ⟨i, rfl, hii, hP1, hs1, hR1⟩ := hcut
        have PS := hide hP1
        have RS := hide hR1
        have S1 := hide hs1
        clear hP1 hR1 hs1
        obtain ⟨j0, hj0⟩ : ∃ j0 : Nat, j0 = j := ⟨_, rfl⟩
        subst hj0
        go_upto_block 4 with fail
        go_cut [10] from 46 to 61 (fun v wc => ∃ j : Nat, v = .int .i64 j ∧ j ≤ j0 ∧ Prt le2 a b d p i j dk ∧ (i ≤ j → le2 dk[j]! p = true) ∧ Row w g o dk wc)
        case first =>
          go_wp2_with fail
          go_loopw [10] (fun v wr => ∃ j : Nat, v = .int .i64 j ∧ j ≤ j0 ∧ Prt le2 a b d p i j dk ∧ Row w g o dk wr) (fun v _ => (intOf v).toNat)
          case atStart => exact ⟨_, rfl, Nat.le_refl _, unhide PS, unhide RS⟩
          case round =>
            obtain ⟨j, rfl, hjj, hP, hR⟩ := hrel
            have hsz : dk.size = n := hsk
            obtain ⟨G, hG⟩ : ∃ G : Nat → Nat, ∀ t, G t = dk[t]! := ⟨fun t => dk[t]!, fun _ => rfl⟩
            have hga : G a = p := by rw [hG]; exact hP.piv
            have hcw : ∀ t, t < n → wr.cell? ⟨g, o + t, none⟩ = some (.int .u32 (G t : Nat)) := fun t ht => by rw [hG]; exact hR.cell t (by omega)
            have hfw : ∀ t, t < n → wr.frozen? ⟨g, o + t, none⟩ = false := fun t ht => hR.free t (by omega)
            have ba := hP.ha
            have bj := hP.hjb
            have bi := hP.hij
            have HGA := hide hga
            have PP := hide hP
            have RR := hide hR
            have HG := hide hG
            clear hga hP hR hG
            by_cases hij : i ≤ j
            · have hij' : (i : Int) ≤ (j : Int) := by omega
              go_wp2_with fail
              go_quiet (first | (go_at_call 55; refine Calls.quiet_of_same (less55 _ _ _)))
              go_wp2
              · have hl : cl (G a) (G j) = true := by assumption
                go_roundw
                case rel => exact ⟨j - 1, by congr 1; omega, by omega, (unhide PP).down hij (by show (!cl p dk[j]!) = false; rw [← unhide HG j, ← unhide HGA, hl]; rfl), (unhide RR).drewN _⟩
                case measure => simp [intOf]; omega
              · have hl : cl (G a) (G j) = false := by assumption
                go_meet
                case rel => exact ⟨j, rfl, hjj, unhide PP, fun _ => (by show (!cl p dk[j]!) = true; rw [← unhide HG j, ← unhide HGA, hl]; rfl), (unhide RR).drewN _⟩
            · have hij' : ¬ (i : Int) ≤ (j : Int) := by omega
              go_wp2_with fail
              go_quiet (first | (go_at_call 55; refine Calls.quiet_of_same (less55 _ _ _)))
              go_wp2
              go_meet
              case rel => exact ⟨j, rfl, hjj, unhide PP, fun h => absurd h hij, (unhide RR).drewN _⟩
        case rest =>
          obtain ⟨j, rfl, hjj, hP, hs2, hR⟩ := hcut
          have S2 := hide hs2
          clear hs2
          generalize wc = wr at *
          obtain ⟨G, hG⟩ : ∃ G : Nat → Nat, ∀ t, G t = dk[t]! := ⟨fun t => dk[t]!, fun _ => rfl⟩
          have hga : G a = p := by rw [hG]; exact hP.piv
          have hcw : ∀ t, t < n → wr.cell? ⟨g, o + t, none⟩ = some (.int .u32 (G t : Nat)) := fun t ht => by rw [hG]; exact hR.cell t (by omega)
          have hfw : ∀ t, t < n → wr.frozen? ⟨g, o + t, none⟩ = false := fun t ht => hR.free t (by omega)
          have ba := hP.ha
          have bj := hP.hjb
          have bi := hP.hij
          have HGA := hide hga
          have PP := hide hP
          have RR := hide hR
          have HG := hide hG
          clear hga hP hR hG
          by_cases hij : i ≤ j
          · have hij' : (i : Int) ≤ (j : Int) := by omega
            have hne : i ≠ j := fun e => by
              have q1 := unhide S1 (by omega)
              have q2 := unhide S2 (by omega)
              rw [e, q2] at q1
              cases q1
            have hlt : i < j := by omega
            go_wp2_with fail
            go_region
            all_goals go_wp2
            go_roundw
            case rel =>
              refine ⟨i + 1, j - 1, swp dk i j, by go_num, by congr 1; omega, by rw [size_swp]; exact hsk, (unhide PP).swap (by omega) (unhide S1 (by omega)) (unhide S2 (by omega)), ?_⟩
              have := ((unhide RR).drewN 1).swp i j (by omega) (by omega)
              rw [← unhide HG i, ← unhide HG j] at this
              exact this
            case measure => simp [intOf]; omega
          · have hij' : (j : Int) < (i : Int) := by omega
            go_wp2
            go_ret
            exact ⟨i, dk, rfl, hsk, (unhide PP).same (by omega), unhide RR⟩
  · obtain hq : q = a := by omega
    subst hq
    go_region
    all_goals go_wp2_with fail
    have RA := ((unhide R0).drewN 1).swp q q (by omega) (by omega)
    rw [← unhide HG0 q] at RA
    have RA := hide RA
    clear hc0 hf0
    go_loopw [9, 10] (fun vi vj wr => ∃ (i j : Nat) (dk : Array Nat), vi = .int .i64 i ∧ vj = .int .i64 j ∧ dk.size = n ∧ Prt le2 q b d p i j dk ∧ Row w g o dk wr) (fun vi vj _ => (intOf vj + 1 - intOf vi).toNat)
    case atStart => exact ⟨q + 1, b - 1, swp d q q, by go_num, by congr 1; omega, by rw [size_swp]; exact hd, hPst, unhide RA⟩
    case round =>
      obtain ⟨i, j, dk, rfl, rfl, hsk, hP, hR⟩ := hrel
      have PS := hide hP
      have RS := hide hR
      clear hP hR
      obtain ⟨i0, hi0⟩ : ∃ i0 : Nat, i0 = i := ⟨_, rfl⟩
      subst hi0
      go_upto_block 2 with fail
      go_cut [9] from 29 to 45 (fun v wc => ∃ i : Nat, v = .int .i64 i ∧ i0 ≤ i ∧ Prt le2 q b d p i j dk ∧ (i ≤ j → le2 dk[i]! p = false) ∧ Row w g o dk wc)
      case first =>
        go_wp2_with fail
        go_loopw [9] (fun v wr => ∃ i : Nat, v = .int .i64 i ∧ i0 ≤ i ∧ Prt le2 q b d p i j dk ∧ Row w g o dk wr) (fun v _ => j + 1 - (intOf v).toNat)
        case atStart => exact ⟨_, rfl, Nat.le_refl _, unhide PS, unhide RS⟩
        case round =>
          obtain ⟨i, rfl, hii, hP, hR⟩ := hrel
          have hsz : dk.size = n := hsk
          obtain ⟨G, hG⟩ : ∃ G : Nat → Nat, ∀ t, G t = dk[t]! := ⟨fun t => dk[t]!, fun _ => rfl⟩
          have hga : G q = p := by rw [hG]; exact hP.piv
          have hcw : ∀ t, t < n → wr.cell? ⟨g, o + t, none⟩ = some (.int .u32 (G t : Nat)) := fun t ht => by rw [hG]; exact hR.cell t (by omega)
          have hfw : ∀ t, t < n → wr.frozen? ⟨g, o + t, none⟩ = false := fun t ht => hR.free t (by omega)
          have ba := hP.ha
          have bj := hP.hjb
          have bi := hP.hij
          have HGA := hide hga
          have PP := hide hP
          have RR := hide hR
          have HG := hide hG
          clear hga hP hR hG
          by_cases hij : i ≤ j
          · have hij' : (i : Int) ≤ (j : Int) := by omega
            go_wp2_with fail
            go_quiet (first | (go_at_call 55; refine Calls.quiet_of_same (less55 _ _ _)))
            go_wp2
            · have hl : cl (G q) (G i) = false := nt (by assumption)
              go_roundw
              case rel => exact ⟨i + 1, by go_num, by omega, (unhide PP).up hij (by show (!cl p dk[i]!) = true; rw [← unhide HG i, ← unhide HGA, hl]; rfl), (unhide RR).drewN _⟩
              case measure => simp [intOf]; omega
            · have hl : cl (G q) (G i) = true := nf (by assumption)
              go_meet
              case rel => exact ⟨i, rfl, hii, unhide PP, fun _ => (by show (!cl p dk[i]!) = false; rw [← unhide HG i, ← unhide HGA, hl]; rfl), (unhide RR).drewN _⟩
          · have hij' : ¬ (i : Int) ≤ (j : Int) := by omega
            go_wp2_with fail
            go_quiet (first | (go_at_call 55; refine Calls.quiet_of_same (less55 _ _ _)))
            go_wp2
            go_meet
            case rel => exact ⟨i, rfl, hii, unhide PP, fun h => absurd h hij, (unhide RR).drewN _⟩
      case rest =>
        obtain ⟨i, rfl, hii, hP1, hs1, hR1⟩ := hcut
        have PS := hide hP1
        have RS := hide hR1
        have S1 := hide hs1
        clear hP1 hR1 hs1
        obtain ⟨j0, hj0⟩ : ∃ j0 : Nat, j0 = j := ⟨_, rfl⟩
        subst hj0
        go_upto_block 4 with fail
        go_cut [10] from 46 to 61 (fun v wc => ∃ j : Nat, v = .int .i64 j ∧ j ≤ j0 ∧ Prt le2 q b d p i j dk ∧ (i ≤ j → le2 dk[j]! p = true) ∧ Row w g o dk wc)
        case first =>
          go_wp2_with fail
          go_loopw [10] (fun v wr => ∃ j : Nat, v = .int .i64 j ∧ j ≤ j0 ∧ Prt le2 q b d p i j dk ∧ Row w g o dk wr) (fun v _ => (intOf v).toNat)
          case atStart => exact ⟨_, rfl, Nat.le_refl _, unhide PS, unhide RS⟩
          case round =>
            obtain ⟨j, rfl, hjj, hP, hR⟩ := hrel
            have hsz : dk.size = n := hsk
            obtain ⟨G, hG⟩ : ∃ G : Nat → Nat, ∀ t, G t = dk[t]! := ⟨fun t => dk[t]!, fun _ => rfl⟩
            have hga : G q = p := by rw [hG]; exact hP.piv
            have hcw : ∀ t, t < n → wr.cell? ⟨g, o + t, none⟩ = some (.int .u32 (G t : Nat)) := fun t ht => by rw [hG]; exact hR.cell t (by omega)
            have hfw : ∀ t, t < n → wr.frozen? ⟨g, o + t, none⟩ = false := fun t ht => hR.free t (by omega)
            have ba := hP.ha
            have bj := hP.hjb
            have bi := hP.hij
            have HGA := hide hga
            have PP := hide hP
            have RR := hide hR
            have HG := hide hG
            clear hga hP hR hG
            by_cases hij : i ≤ j
            · have hij' : (i : Int) ≤ (j : Int) := by omega
              go_wp2_with fail
              go_quiet (first | (go_at_call 55; refine Calls.quiet_of_same (less55 _ _ _)))
              go_wp2
              · have hl : cl (G q) (G j) = true := by assumption
                go_roundw
                case rel => exact ⟨j - 1, by congr 1; omega, by omega, (unhide PP).down hij (by show (!cl p dk[j]!) = false; rw [← unhide HG j, ← unhide HGA, hl]; rfl), (unhide RR).drewN _⟩
                case measure => simp [intOf]; omega
              · have hl : cl (G q) (G j) = false := by assumption
                go_meet
                case rel => exact ⟨j, rfl, hjj, unhide PP, fun _ => (by show (!cl p dk[j]!) = true; rw [← unhide HG j, ← unhide HGA, hl]; rfl), (unhide RR).drewN _⟩
            · have hij' : ¬ (i : Int) ≤ (j : Int) := by omega
              go_wp2_with fail
              go_quiet (first | (go_at_call 55; refine Calls.quiet_of_same (less55 _ _ _)))
              go_wp2
              go_meet
              case rel => exact ⟨j, rfl, hjj, unhide PP, fun h => absurd h hij, (unhide RR).drewN _⟩
        case rest =>
          obtain ⟨j, rfl, hjj, hP, hs2, hR⟩ := hcut
          have S2 := hide hs2
          clear hs2
          generalize wc = wr at *
          obtain ⟨G, hG⟩ : ∃ G : Nat → Nat, ∀ t, G t = dk[t]! := ⟨fun t => dk[t]!, fun _ => rfl⟩
          have hga : G q = p := by rw [hG]; exact hP.piv
          have hcw : ∀ t, t < n → wr.cell? ⟨g, o + t, none⟩ = some (.int .u32 (G t : Nat)) := fun t ht => by rw [hG]; exact hR.cell t (by omega)
          have hfw : ∀ t, t < n → wr.frozen? ⟨g, o + t, none⟩ = false := fun t ht => hR.free t (by omega)
          have ba := hP.ha
          have bj := hP.hjb
          have bi := hP.hij
          have HGA := hide hga
          have PP := hide hP
          have RR := hide hR
          have HG := hide hG
          clear hga hP hR hG
          by_cases hij : i ≤ j
          · have hij' : (i : Int) ≤ (j : Int) := by omega
            have hne : i ≠ j := fun e => by
              have q1 := unhide S1 (by omega)
              have q2 := unhide S2 (by omega)
              rw [e, q2] at q1
              cases q1
            have hlt : i < j := by omega
            go_wp2_with fail
            go_region
            all_goals go_wp2
            go_roundw
            case rel =>
              refine ⟨i + 1, j - 1, swp dk i j, by go_num, by congr 1; omega, by rw [size_swp]; exact hsk, (unhide PP).swap (by omega) (unhide S1 (by omega)) (unhide S2 (by omega)), ?_⟩
              have := ((unhide RR).drewN 1).swp i j (by omega) (by omega)
              rw [← unhide HG i, ← unhide HG j] at this
              exact this
            case measure => simp [intOf]; omega
          · have hij' : (j : Int) < (i : Int) := by omega
            go_wp2
            go_ret
            exact ⟨i, dk, rfl, hsk, (unhide PP).same (by omega), unhide RR⟩
end Go.Proofs.Ytflmlbdcjjldgaa.QPeq
