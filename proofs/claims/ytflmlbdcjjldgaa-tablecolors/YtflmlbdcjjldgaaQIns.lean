/- Contract: slices.insertionSortOrdered of uint32. Conditions: the part lies in the row, which is of at most 1000000 numbers. -/
import Derived.Test.YtflmlbdcjjldgaaQLes
namespace Go.Proofs.Ytflmlbdcjjldgaa.QIns
set_option linter.unusedVariables false
open Go.ChangeShapes Go.WideShapes Go.ChangeAt Go.RowKit Go.Sort Go.Proofs.Ytflmlbdcjjldgaa.Core Go.Proofs.Ytflmlbdcjjldgaa.QNum Go.Proofs.Ytflmlbdcjjldgaa.QLes

set_option maxHeartbeats 800000 in
theorem ins49 {g o n a b : Nat} (c : Nat) {d : Array Nat} {w : World} (R : Row w g o d w) (hd : d.size = n) (hab : a ≤ b) (hb : b ≤ n) (hn : n ≤ 1000000) :
    Calls Try.prog 49 #[.slice (some ⟨g, o, none⟩) n c, .int .i64 a, .int .i64 b] w fun e w' => e = .returned (.tuple #[]) ∧ Row w g o (insertionSort cl d a b) w' := by
  have R0 := hide R
  clear R
  go_enter Try.func49, Try.ntmps49
  go_wp2
  go_loopw [6] (fun vi wr => ∃ (i : Nat) (dk : Array Nat), vi = .int .i64 i ∧ a < i ∧ i ≤ b + 1 ∧ dk.size = n ∧ Row w g o dk wr ∧ insOuter cl a b i dk = insOuter cl a b (a + 1) d) (fun vi _ => b + 1 - (intOf vi).toNat)
  case atStart => exact ⟨a + 1, d, by go_num, by omega, by omega, hd, unhide R0, rfl⟩
  case round =>
    obtain ⟨i, dk, rfl, hai, hib, hsk, Rk, hO⟩ := hrel
    have HO := hide hO
    have RK := hide Rk
    clear hO Rk
    by_cases hlt : i < b
    · have hlt' : (i : Int) < (b : Int) := by omega
      go_wp2
      go_loopw [7] (fun vj wq => ∃ (j : Nat) (dj : Array Nat), vj = .int .i64 j ∧ a ≤ j ∧ j ≤ i ∧ dj.size = n ∧ Row w g o dj wq ∧ insInner cl a j dj = insInner cl a i dk) (fun vj _ => (intOf vj).toNat)
      case atStart => exact ⟨i, dk, rfl, by omega, Nat.le_refl _, hsk, unhide RK, rfl⟩
      case round =>
        obtain ⟨j, dj, rfl, haj, hji, hsj, Rj, hI⟩ := hrel
        obtain ⟨G, hG⟩ : ∃ G : Nat → Nat, ∀ t, G t = dj[t]! := ⟨fun t => dj[t]!, fun _ => rfl⟩
        have hcw : ∀ t, t < n → wr.cell? ⟨g, o + t, none⟩ = some (.int .u32 (G t : Nat)) := fun t ht => by rw [hG]; exact Rj.cell t (by omega)
        have hfw : ∀ t, t < n → wr.frozen? ⟨g, o + t, none⟩ = false := fun t ht => Rj.free t (by omega)
        have HG := hide hG
        have HI := hide hI
        have RJ := hide Rj
        clear hG hI Rj
        have OUT := hide (p := (j ≤ a ∨ cl (G j) (G (j - 1)) = false) → ∀ q, ∃ (i' : Nat) (dk' : Array Nat), Value.int .i64 ((i : Int) + 1) = .int .i64 i' ∧ a < i' ∧ i' ≤ b + 1 ∧ dk'.size = n ∧ Row w g o dk' (wr.drewN q) ∧ insOuter cl a b i' dk' = insOuter cl a b (a + 1) d)
          (fun hs q => ⟨i + 1, dj, by go_num, by omega, by omega, hsj, (unhide RJ).drewN q, by
            rw [← unhide HO, outer_go _ _ _ _ hlt, ← unhide HI, ins_stop _ _ _ (by rw [← unhide HG j, ← unhide HG (j - 1)]; exact hs)]⟩)
        go_wp2
        by_cases hja : a < j
        · go_quiet (first | (go_at_call 55; refine Calls.quiet_of_same (less55 _ _ _)))
          go_wp2
          · have hl : cl (G j) (G (j - 1)) = true := by assumption
            go_region
            all_goals go_wp2
            go_roundw
            case rel =>
              refine ⟨j - 1, swp dj j (j - 1), by congr 1; omega, by omega, by omega, by rw [size_swp]; exact hsj, ?_, ?_⟩
              · have := ((unhide RJ).drewN (nq + 1)).swp j (j - 1) (by omega) (by omega)
                rw [← unhide HG j, ← unhide HG (j - 1)] at this
                exact this
              · rw [← unhide HI, ins_go a j dj hja (by rw [← unhide HG j, ← unhide HG (j - 1)]; exact hl)]
            case measure => simp [intOf]; omega
          · have hl : cl (G j) (G (j - 1)) = false := by assumption
            go_roundw
            case rel => exact unhide OUT (Or.inr hl) nq
            case measure => simp [intOf]; omega
        · go_quiet (first | (go_at_call 55; refine Calls.quiet_of_same (less55 _ _ _)))
          go_wp2
          go_roundw
          case rel => exact unhide OUT (Or.inl (by omega)) nq
          case measure => simp [intOf]; omega
    · go_wp2
      go_end0
      exact ⟨rfl, by unfold insertionSort; rw [← unhide HO, outer_stop _ _ _ _ hlt]; exact unhide RK⟩
end Go.Proofs.Ytflmlbdcjjldgaa.QIns
