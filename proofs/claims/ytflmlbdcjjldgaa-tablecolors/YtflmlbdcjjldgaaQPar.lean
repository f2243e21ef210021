/- Contract: slices.partialInsertionSortOrdered of uint32. Conditions: the part lies in the row, which is of at most 1000000 numbers. -/
import Derived.Test.YtflmlbdcjjldgaaQLes
import Derived.Deep.CutBlock
namespace Go.Proofs.Ytflmlbdcjjldgaa.QPar
set_option linter.unusedVariables false
open Go.ChangeShapes Go.WideShapes Go.ChangeAt Go.RowKit Go.Sort Go.Proofs.Ytflmlbdcjjldgaa.Core Go.Proofs.Ytflmlbdcjjldgaa.QNum Go.Proofs.Ytflmlbdcjjldgaa.QLes

theorem sc_go (b i : Nat) (d : Array Nat) (h : i < b) (hl : cl d[i]! d[i - 1]! = false) : scanSorted cl d b i = scanSorted cl d b (i + 1) := by
  rw [scanSorted, if_pos (by simp [h, hl])]
theorem sc_stop (b i : Nat) (d : Array Nat) (h : b ≤ i ∨ cl d[i]! d[i - 1]! = true) : scanSorted cl d b i = i := by
  rw [scanSorted, if_neg]
  intro q
  simp at q
  rcases h with h | h
  · omega
  · rw [q.2] at h; cases h
theorem sd_go (j : Nat) (d : Array Nat) (h : 1 ≤ j) (hl : cl d[j]! d[j - 1]! = true) : shiftDown cl j d = shiftDown cl (j - 1) (swp d j (j - 1)) := by
  cases j with
  | zero => omega
  | succ k =>
    simp only [Nat.add_sub_cancel] at hl
    rw [shiftDown, if_neg (by simp [hl])]
    rfl
theorem sd_stop (j : Nat) (d : Array Nat) (h : j < 1 ∨ cl d[j]! d[j - 1]! = false) : shiftDown cl j d = d := by
  cases j with
  | zero => rw [shiftDown]
  | succ k =>
    simp only [Nat.add_sub_cancel] at h
    rw [shiftDown, if_pos]
    rcases h with h | h
    · omega
    · simp [h]
theorem su_go (b j : Nat) (d : Array Nat) (h : j < b) (hl : cl d[j]! d[j - 1]! = true) : shiftUp cl b j d = shiftUp cl b (j + 1) (swp d j (j - 1)) := by
  rw [shiftUp, if_pos h, if_neg (by simp [hl])]
theorem su_stop (b j : Nat) (d : Array Nat) (h : b ≤ j ∨ cl d[j]! d[j - 1]! = false) : shiftUp cl b j d = d := by
  rw [shiftUp]
  by_cases hb : j < b
  · rw [if_pos hb]
    rcases h with h | h
    · omega
    · rw [if_pos (by simp [h])]
  · rw [if_neg hb]

set_option maxRecDepth 100000 in
set_option maxHeartbeats 6400000 in
theorem par54 {g o n a b : Nat} (c : Nat) {d : Array Nat} {w : World} (R : Row w g o d w) (hd : d.size = n) (hab : a < b) (hb : b ≤ n) (hn : n ≤ 1000000) :
    Calls Try.prog 54 #[.slice (some ⟨g, o, none⟩) n c, .int .i64 a, .int .i64 b] w fun e w' => e = .returned (.bool (partialInsertionSort cl d a b).2) ∧ Row w g o (partialInsertionSort cl d a b).1 w' := by
  have R0 := hide R
  clear R
  go_enter Try.func54, Try.ntmps54
  go_wp2
  go_loopw [7, 8] (fun vi vj wr => ∃ (s i : Nat) (dk : Array Nat), vi = .int .i64 i ∧ vj = .int .i64 (5 - (s : Int)) ∧ s ≤ 5 ∧ a < i ∧ i ≤ b ∧ dk.size = n ∧ Row w g o dk wr ∧ partialIns cl a b s i dk = partialInsertionSort cl d a b) (fun _ vj _ => (5 - intOf vj).toNat)
  case atStart => exact ⟨5, a + 1, d, by go_num, rfl, Nat.le_refl _, by omega, by omega, hd, unhide R0, rfl⟩
  case round =>
    obtain ⟨s, i, dk, rfl, rfl, hs5, hai, hib, hsk, hR, hO⟩ := hrel
    have RK := hide hR
    have HO := hide hO
    clear hR hO
    cases s with
    | zero =>
      rw [show (5 : Int) - ((0 : Nat) : Int) = 5 from rfl]
      go_wp2
      go_ret
      have e := unhide HO
      rw [show partialIns cl a b 0 i dk = (dk, false) from rfl] at e
      rw [← e]
      exact ⟨rfl, unhide RK⟩
    | succ s =>
      have es : (5 : Int) - ((s + 1 : Nat) : Int) = 4 - (s : Int) := by omega
      have es2 : (4 : Int) - (s : Int) + 1 = 5 - (s : Int) := by omega
      rw [es]
      have es3 : (4 : Int) - (s : Int) < 5 := by omega
      have es4 : (0 : Int) ≤ 4 - (s : Int) := by omega
      have hO1 := unhide HO
      rw [partialIns_succ] at hO1
      have HP := hide hO1
      clear hO1 HO es
      go_upto_block 2 with fail
      go_cut [7] from 17 to 34 (fun v wc => ∃ x : Nat, v = .int .i64 x ∧ i ≤ x ∧ x ≤ b ∧ scanSorted cl dk b i = x ∧ Row w g o dk wc)
      case first =>
        go_wp2_with fail
        go_loopw [7] (fun v wr => ∃ x : Nat, v = .int .i64 x ∧ i ≤ x ∧ x ≤ b ∧ Row w g o dk wr ∧ scanSorted cl dk b x = scanSorted cl dk b i) (fun v _ => b - (intOf v).toNat)
        case atStart => exact ⟨i, rfl, Nat.le_refl _, hib, unhide RK, rfl⟩
        case round =>
          obtain ⟨x, rfl, hx1, hx2, hR, hS⟩ := hrel
          obtain ⟨G, hG⟩ : ∃ G : Nat → Nat, ∀ t, G t = dk[t]! := ⟨fun t => dk[t]!, fun _ => rfl⟩
          have hcw : ∀ t, t < n → wr.cell? ⟨g, o + t, none⟩ = some (.int .u32 (G t : Nat)) := fun t ht => by rw [hG]; exact hR.cell t (by omega)
          have hfw : ∀ t, t < n → wr.frozen? ⟨g, o + t, none⟩ = false := fun t ht => hR.free t (by omega)
          have HG := hide hG
          clear hG
          have RX := hide hR
          have HS := hide hS
          clear hR hS
          by_cases hxb : x < b
          · have hxb' : (x : Int) < (b : Int) := by omega
            go_wp2_with fail
            go_quiet (first | (go_at_call 55; refine Calls.quiet_of_same (less55 _ _ _)))
            go_wp2
            · have hl : cl (G x) (G (x - 1)) = false := nt (by assumption)
              go_roundw
              case rel => exact ⟨x + 1, by go_num, by omega, by omega, (unhide RX).drewN _, by rw [← unhide HS, sc_go _ _ _ hxb (by rw [← unhide HG x, ← unhide HG (x - 1)]; exact hl)]⟩
              case measure => simp [intOf]; omega
            · have hl : cl (G x) (G (x - 1)) = true := nf (by assumption)
              go_meet
              case rel => exact ⟨x, rfl, hx1, hx2, by rw [← unhide HS, sc_stop _ _ _ (.inr (by rw [← unhide HG x, ← unhide HG (x - 1)]; exact hl))], (unhide RX).drewN _⟩
          · have hxb' : ¬ (x : Int) < (b : Int) := by omega
            go_wp2_with fail
            go_quiet (first | (go_at_call 55; refine Calls.quiet_of_same (less55 _ _ _)))
            go_wp2
            go_meet
            case rel => exact ⟨x, rfl, hx1, hx2, by rw [← unhide HS, sc_stop _ _ _ (.inl (by omega))], (unhide RX).drewN _⟩
      case rest =>
        obtain ⟨x, rfl, hx1, hx2, hx, hR⟩ := hcut
        have hO1 := unhide HP
        rw [hx] at hO1
        clear hx HP RK hib
        have RX := hide hR
        clear hR
        by_cases hxb : x = b
        · subst hxb
          rw [if_pos rfl] at hO1
          have HP := hide hO1
          clear hO1
          go_wp2
          go_ret
          rw [← unhide HP]
          exact ⟨rfl, unhide RX⟩
        · have hxb' : ¬ (x : Int) = (b : Int) := by omega
          rw [if_neg hxb] at hO1
          by_cases h50 : b - a < 50
          · have h50' : (b : Int) - (a : Int) < 50 := by omega
            rw [if_pos h50] at hO1
            have HP := hide hO1
            clear hO1
            go_wp2
            go_ret
            rw [← unhide HP]
            exact ⟨rfl, unhide RX⟩
          · have h50' : ¬ (b : Int) - (a : Int) < 50 := by omega
            rw [if_neg h50] at hO1
            have HP := hide hO1
            clear hO1
            generalize wc = wr at *
            have hai' : a < x := by omega
            clear hai hx1
            rename_i i0
            obtain ⟨i, hi⟩ : ∃ i : Nat, i = x := ⟨_, rfl⟩
            subst hi
            obtain ⟨G, hG⟩ : ∃ G : Nat → Nat, ∀ t, G t = dk[t]! := ⟨fun t => dk[t]!, fun _ => rfl⟩
            have hcw : ∀ t, t < n → wr.cell? ⟨g, o + t, none⟩ = some (.int .u32 (G t : Nat)) := fun t ht => by rw [hG]; exact (unhide RX).cell t (by omega)
            have hfw : ∀ t, t < n → wr.frozen? ⟨g, o + t, none⟩ = false := fun t ht => (unhide RX).free t (by omega)
            have HG := hide hG
            clear hG
            go_wp2_with fail
            go_region
            all_goals go_upto_if 61 with fail
            have hR1 := ((unhide RX).drewN 1).swp i (i - 1) (by omega) (by omega)
            rw [← unhide HG i, ← unhide HG (i - 1)] at hR1
            obtain ⟨d1, hd1⟩ : ∃ d1, d1 = swp dk i (i - 1) := ⟨_, rfl⟩
            rw [← hd1] at hR1
            have hs1 : d1.size = n := by rw [hd1, size_swp]; exact hsk
            have R1 := hide hR1
            have HD1 := hide hd1
            clear hR1 hd1 hcw hfw HG RX
            go_cut [61] from 62 to 94 (fun _ wc => (fixDown cl a i d1).size = n ∧ Row w g o (fixDown cl a i d1) wc)
            case first =>
              by_cases h2 : 2 ≤ i - a
              · have h2' : (2 : Int) ≤ (i : Int) - (a : Int) := by omega
                have hbz : decide ((2 : Int) ≤ (i : Int) - (a : Int)) = true := decide_eq_true h2'
                have FE := hide (show shiftDown cl (i - 1) d1 = fixDown cl a i d1 by unfold fixDown; rw [if_pos (by omega)])
                go_wp2
                go_loopw [9] (fun v wr => ∃ (j : Nat) (dj : Array Nat), v = .int .i64 j ∧ j ≤ i - 1 ∧ dj.size = n ∧ Row w g o dj wr ∧ shiftDown cl j dj = shiftDown cl (i - 1) d1) (fun v _ => (intOf v).toNat)
                case atStart => exact ⟨i - 1, d1, by congr 1; omega, Nat.le_refl _, hs1, unhide R1, rfl⟩
                case round =>
                  obtain ⟨j, dj, rfl, hj1, hsj, hR, hS⟩ := hrel
                  obtain ⟨G, hG⟩ : ∃ G : Nat → Nat, ∀ t, G t = dj[t]! := ⟨fun t => dj[t]!, fun _ => rfl⟩
                  have hcw : ∀ t, t < n → wr.cell? ⟨g, o + t, none⟩ = some (.int .u32 (G t : Nat)) := fun t ht => by rw [hG]; exact hR.cell t (by omega)
                  have hfw : ∀ t, t < n → wr.frozen? ⟨g, o + t, none⟩ = false := fun t ht => hR.free t (by omega)
                  have HG := hide hG
                  clear hG
                  have RX := hide hR
                  have HS := hide hS
                  clear hR hS
                  by_cases hj : 1 ≤ j
                  · have hj' : (1 : Int) ≤ (j : Int) := by omega
                    go_wp2_with fail
                    go_quiet (first | (go_at_call 55; refine Calls.quiet_of_same (less55 _ _ _)))
                    go_wp2
                    · have hl : cl (G j) (G (j - 1)) = false := nt (by assumption)
                      go_meet
                      case rel => exact ⟨by rw [← unhide FE, ← unhide HS, sd_stop j dj (.inr (by rw [← unhide HG j, ← unhide HG (j - 1)]; exact hl))]; exact hsj, by rw [← unhide FE, ← unhide HS, sd_stop j dj (.inr (by rw [← unhide HG j, ← unhide HG (j - 1)]; exact hl))]; exact (unhide RX).drewN _⟩
                    · have hl : cl (G j) (G (j - 1)) = true := nf (by assumption)
                      go_region
                      all_goals go_wp2
                      go_roundw
                      case rel =>
                        refine ⟨j - 1, swp dj j (j - 1), by congr 1; omega, by omega, by rw [size_swp]; exact hsj, ?_, ?_⟩
                        · have := ((unhide RX).drewN (nq + 1)).swp j (j - 1) (by omega) (by omega)
                          rw [← unhide HG j, ← unhide HG (j - 1)] at this
                          exact this
                        · rw [← unhide HS, sd_go j dj (by omega) (by rw [← unhide HG j, ← unhide HG (j - 1)]; exact hl)]
                      case measure => simp [intOf]; omega
                  · have hj' : ¬ (1 : Int) ≤ (j : Int) := by omega
                    go_wp2_with fail
                    go_meet
                    case rel => exact ⟨by rw [← unhide FE, ← unhide HS, sd_stop j dj (.inl (by omega))]; exact hsj, by rw [← unhide FE, ← unhide HS, sd_stop j dj (.inl (by omega))]; exact unhide RX⟩
              · have h2' : ¬ (2 : Int) ≤ (i : Int) - (a : Int) := by omega
                have FE := hide (show d1 = fixDown cl a i d1 by unfold fixDown; rw [if_neg (by omega)])
                go_wp2
                go_meet
                exact ⟨by rw [← unhide FE]; exact hs1, by rw [← unhide FE]; exact unhide R1⟩
            case rest =>
              obtain ⟨hs2, hR2⟩ := hcut
              have R2 := hide hR2
              clear hR2 R1
              obtain ⟨d2, hd2⟩ : ∃ d2, d2 = fixDown cl a i d1 := ⟨_, rfl⟩
              rw [← hd2] at hs2
              have R2 := hide (show Row w g o d2 wc by rw [hd2]; exact unhide R2)
              have HD2 := hide hd2
              clear hd2
              by_cases h2 : 2 ≤ b - i
              · have h2' : (2 : Int) ≤ (b : Int) - (i : Int) := by omega
                have hbz : decide ((2 : Int) ≤ (b : Int) - (i : Int)) = true := decide_eq_true h2'
                have FE := hide (show shiftUp cl b (i + 1) d2 = fixUp cl b i d2 by unfold fixUp; rw [if_pos (by omega)])
                go_wp2
                go_loopw [10] (fun v wr => ∃ (j : Nat) (dj : Array Nat), v = .int .i64 j ∧ i + 1 ≤ j ∧ j ≤ b ∧ dj.size = n ∧ Row w g o dj wr ∧ shiftUp cl b j dj = shiftUp cl b (i + 1) d2) (fun v _ => b - (intOf v).toNat)
                case atStart => exact ⟨i + 1, d2, by go_num, Nat.le_refl _, by omega, hs2, unhide R2, rfl⟩
                case round =>
                  obtain ⟨j, dj, rfl, hj1, hj2, hsj, hR, hS⟩ := hrel
                  obtain ⟨G, hG⟩ : ∃ G : Nat → Nat, ∀ t, G t = dj[t]! := ⟨fun t => dj[t]!, fun _ => rfl⟩
                  have hcw : ∀ t, t < n → wr.cell? ⟨g, o + t, none⟩ = some (.int .u32 (G t : Nat)) := fun t ht => by rw [hG]; exact hR.cell t (by omega)
                  have hfw : ∀ t, t < n → wr.frozen? ⟨g, o + t, none⟩ = false := fun t ht => hR.free t (by omega)
                  have HG := hide hG
                  clear hG
                  have RX := hide hR
                  have HS := hide hS
                  clear hR hS
                  by_cases hj : j < b
                  · have hj' : (j : Int) < (b : Int) := by omega
                    go_wp2_with fail
                    go_quiet (first | (go_at_call 55; refine Calls.quiet_of_same (less55 _ _ _)))
                    go_wp2
                    · have hl : cl (G j) (G (j - 1)) = false := nt (by assumption)
                      go_wp2
                      go_roundw
                      case rel => exact ⟨s, i, dj, rfl, rfl, by omega, hai', hx2, hsj, (unhide RX).drewN _, by rw [← unhide HP, ← unhide HD1, ← unhide HD2, ← unhide FE, ← unhide HS, su_stop b j dj (.inr (by rw [← unhide HG j, ← unhide HG (j - 1)]; exact hl))]⟩
                      case measure => simp [intOf]; omega
                    · have hl : cl (G j) (G (j - 1)) = true := nf (by assumption)
                      go_region
                      all_goals go_wp2
                      go_roundw
                      case rel =>
                        refine ⟨j + 1, swp dj j (j - 1), by go_num, by omega, by omega, by rw [size_swp]; exact hsj, ?_, ?_⟩
                        · have := ((unhide RX).drewN (nq + 1)).swp j (j - 1) (by omega) (by omega)
                          rw [← unhide HG j, ← unhide HG (j - 1)] at this
                          exact this
                        · rw [← unhide HS, su_go b j dj (by omega) (by rw [← unhide HG j, ← unhide HG (j - 1)]; exact hl)]
                      case measure => simp [intOf]; omega
                  · have hj' : ¬ (j : Int) < (b : Int) := by omega
                    go_wp2_with fail
                    go_wp2
                    go_roundw
                    case rel => exact ⟨s, i, dj, rfl, rfl, by omega, hai', hx2, hsj, unhide RX, by rw [← unhide HP, ← unhide HD1, ← unhide HD2, ← unhide FE, ← unhide HS, su_stop b j dj (.inl (by omega))]⟩
                    case measure => simp [intOf]; omega
              · have h2' : ¬ (2 : Int) ≤ (b : Int) - (i : Int) := by omega
                have FE := hide (show d2 = fixUp cl b i d2 by unfold fixUp; rw [if_neg (by omega)])
                go_wp2
                go_roundw
                case rel => exact ⟨s, i, d2, rfl, rfl, by omega, hai', hx2, hs2, unhide R2, by rw [← unhide HP, ← unhide HD1, ← unhide HD2, ← unhide FE]⟩
                case measure => simp [intOf]; omega
end Go.Proofs.Ytflmlbdcjjldgaa.QPar
