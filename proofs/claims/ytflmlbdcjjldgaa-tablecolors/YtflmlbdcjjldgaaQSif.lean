/- Contracts: slices.siftDownOrdered and heapSortOrdered of uint32. Conditions: the part lies in the row, which is of at most 1000000 numbers. -/
import Derived.Test.YtflmlbdcjjldgaaQLes
namespace Go.Proofs.Ytflmlbdcjjldgaa.QSif
set_option linter.unusedVariables false
open Go.ChangeShapes Go.WideShapes Go.ChangeAt Go.RowKit Go.Sort Go.Proofs.Ytflmlbdcjjldgaa.Core Go.Proofs.Ytflmlbdcjjldgaa.QNum Go.Proofs.Ytflmlbdcjjldgaa.QLes

theorem sd_leaf {hi f r : Nat} (d : Array Nat) (h : hi ≤ 2 * r + 1) : siftDown cl hi f r d = d := by
  rw [siftDown, dif_pos h]
/-- One step down, to the greater of the two below. -/
def Kid (hi f r : Nat) (d : Array Nat) (c : Nat) : Prop := r < c ∧ c < hi ∧ siftDown cl hi f r d = if cl d[f + r]! d[f + c]! then siftDown cl hi f c (swp d (f + r) (f + c)) else d
theorem kid_right {hi f r : Nat} (d : Array Nat) (h : 2 * r + 2 < hi) (hl : cl d[f + (2 * r + 1)]! d[f + (2 * r + 1) + 1]! = true) : Kid hi f r d (2 * r + 2) := by
  refine ⟨by omega, h, ?_⟩
  rw [siftDown, dif_neg (by omega), if_pos (by simp only [Bool.and_eq_true, decide_eq_true_eq]; exact ⟨by omega, hl⟩)]
  cases hc : cl d[f + r]! d[f + (2 * r + 2)]! <;> simp [h]
theorem kid_left {hi f r : Nat} (d : Array Nat) (h : 2 * r + 1 < hi) (hl : hi ≤ 2 * r + 2 ∨ cl d[f + (2 * r + 1)]! d[f + (2 * r + 1) + 1]! = false) : Kid hi f r d (2 * r + 1) := by
  refine ⟨by omega, h, ?_⟩
  rw [siftDown, dif_neg (by omega), if_neg (by
    intro q
    simp only [Bool.and_eq_true, decide_eq_true_eq] at q
    rcases hl with hl | hl
    · omega
    · rw [q.2] at hl; cases hl)]
  cases hc : cl d[f + r]! d[f + (2 * r + 1)]! <;> simp

set_option maxHeartbeats 1600000 in
theorem sift60 {g o n lo hi f : Nat} (c : Nat) {d : Array Nat} {w : World} (R : Row w g o d w) (hd : d.size = n) (hf : f + hi ≤ n) (hlo : lo ≤ hi) (hn : n ≤ 1000000) :
    Calls Try.prog 60 #[.slice (some ⟨g, o, none⟩) n c, .int .i64 lo, .int .i64 hi, .int .i64 f] w fun e w' => e = .returned (.tuple #[]) ∧ Row w g o (siftDown cl hi f lo d) w' := by
  have R0 := hide R
  clear R
  go_enter Try.func60, Try.ntmps60
  go_wp2
  go_loopw [8] (fun vi wr => ∃ (r : Nat) (dk : Array Nat), vi = .int .i64 r ∧ r ≤ hi ∧ dk.size = n ∧ Row w g o dk wr ∧ siftDown cl hi f r dk = siftDown cl hi f lo d) (fun vi _ => hi - (intOf vi).toNat)
  case atStart => exact ⟨lo, d, rfl, hlo, hd, unhide R0, rfl⟩
  case round =>
    obtain ⟨r, dk, rfl, hr, hsk, Rk, hO⟩ := hrel
    obtain ⟨G, hG⟩ : ∃ G : Nat → Nat, ∀ t, G t = dk[t]! := ⟨fun t => dk[t]!, fun _ => rfl⟩
    have hcw : ∀ t, t < n → wr.cell? ⟨g, o + t, none⟩ = some (.int .u32 (G t : Nat)) := fun t ht => by rw [hG]; exact Rk.cell t (by omega)
    have hfw : ∀ t, t < n → wr.frozen? ⟨g, o + t, none⟩ = false := fun t ht => Rk.free t (by omega)
    have HO := hide hO
    have RK := hide Rk
    have HG := hide hG
    clear hO Rk hG
    obtain ⟨k, hk⟩ : ∃ k : Nat, k = 2 * r + 1 := ⟨_, rfl⟩
    have hk' : 2 * (r : Int) + 1 = (k : Int) := by omega
    have HK := hide hk
    clear hk
    by_cases h1 : k < hi
    · have h1' : (k : Int) < (hi : Int) := by omega
      go_wp2_with fail
      by_cases h2 : k + 1 < hi
      · have h2' : (k : Int) + 1 < (hi : Int) := by omega
        go_quiet (first | (go_at_call 55; refine Calls.quiet_of_same (less55 _ _ _)))
        go_wp2
        · have hs : cl (G (f + k)) (G (f + k + 1)) = true := by assumption
          have KD := hide (show Kid hi f r dk (k + 1) by rw [unhide HK]; exact kid_right dk (by have := unhide HK; omega) (by rw [← unhide HK, ← unhide HG, ← unhide HG]; exact hs))
          have KE := hide ((show f + (k + 1) = f + k + 1 from rfl) ▸ (unhide KD).2.2)
          have hc1 : k + 1 < hi := by omega
          have hc2 : r < k + 1 := by have := unhide HK; omega
          have hcv : ∀ t, t < n → (wr.drewN nq).cell? ⟨g, o + t, none⟩ = some (.int .u32 (G t : Nat)) := hcw
          have hfv : ∀ t, t < n → (wr.drewN nq).frozen? ⟨g, o + t, none⟩ = false := hfw
          have RKV := hide ((unhide RK).drewN nq)
          clear hcw hfw RK
          generalize wr.drewN nq = wv at *
          go_quiet (first | (go_at_call 55; refine Calls.quiet_of_same (less55 _ _ _)))
          go_wp2
          · have hl : cl (G (f + r)) (G (f + k + 1)) = false := nt (by assumption)
            (try simp only [Exit.inBlock, Exit.then]); refine bodyPost_ret (results_none rfl _ _ _) rfl ?_
            exact ⟨rfl, by rw [← unhide HO, unhide KE, ← unhide HG (f + r), ← unhide HG (f + k + 1), hl]; exact (unhide RKV).drewN _⟩
          · have hl : cl (G (f + r)) (G (f + k + 1)) = true := nf (by assumption)
            go_region
            all_goals go_wp2
            go_roundw
            case rel =>
              refine ⟨k + 1, swp dk (f + r) (f + k + 1), by go_num, by omega, by rw [size_swp]; exact hsk, ?_, ?_⟩
              · have := ((unhide RKV).drewN (nq + 1)).swp (f + r) (f + k + 1) (by omega) (by omega)
                rw [← unhide HG (f + r), ← unhide HG (f + k + 1)] at this
                exact this
              · rw [← unhide HO, unhide KE, ← unhide HG (f + r), ← unhide HG (f + k + 1), hl]; rfl
            case measure => simp [intOf]; omega
        · have hs : cl (G (f + k)) (G (f + k + 1)) = false := by assumption
          have KD := hide (show Kid hi f r dk (k) by rw [unhide HK]; exact kid_left dk (by have := unhide HK; omega) (.inr (by rw [← unhide HK, ← unhide HG, ← unhide HG]; exact hs)))
          have KE := hide ((show f + (k) = f + k from rfl) ▸ (unhide KD).2.2)
          have hc1 : k < hi := by omega
          have hc2 : r < k := by have := unhide HK; omega
          have hcv : ∀ t, t < n → (wr.drewN nq).cell? ⟨g, o + t, none⟩ = some (.int .u32 (G t : Nat)) := hcw
          have hfv : ∀ t, t < n → (wr.drewN nq).frozen? ⟨g, o + t, none⟩ = false := hfw
          have RKV := hide ((unhide RK).drewN nq)
          clear hcw hfw RK
          generalize wr.drewN nq = wv at *
          go_quiet (first | (go_at_call 55; refine Calls.quiet_of_same (less55 _ _ _)))
          go_wp2
          · have hl : cl (G (f + r)) (G (f + k)) = false := nt (by assumption)
            (try simp only [Exit.inBlock, Exit.then]); refine bodyPost_ret (results_none rfl _ _ _) rfl ?_
            exact ⟨rfl, by rw [← unhide HO, unhide KE, ← unhide HG (f + r), ← unhide HG (f + k), hl]; exact (unhide RKV).drewN _⟩
          · have hl : cl (G (f + r)) (G (f + k)) = true := nf (by assumption)
            go_region
            all_goals go_wp2
            go_roundw
            case rel =>
              refine ⟨k, swp dk (f + r) (f + k), by go_num, by omega, by rw [size_swp]; exact hsk, ?_, ?_⟩
              · have := ((unhide RKV).drewN (nq + 1)).swp (f + r) (f + k) (by omega) (by omega)
                rw [← unhide HG (f + r), ← unhide HG (f + k)] at this
                exact this
              · rw [← unhide HO, unhide KE, ← unhide HG (f + r), ← unhide HG (f + k), hl]; rfl
            case measure => simp [intOf]; omega
      · have h2' : ¬ (k : Int) + 1 < (hi : Int) := by omega
        go_quiet (first | (go_at_call 55; refine Calls.quiet_of_same (less55 _ _ _)))
        go_wp2
        have KD := hide (show Kid hi f r dk (k) by rw [unhide HK]; exact kid_left dk (by have := unhide HK; omega) (.inl (by have := unhide HK; omega)))
        have KE := hide ((show f + (k) = f + k from rfl) ▸ (unhide KD).2.2)
        have hc1 : k < hi := by omega
        have hc2 : r < k := by have := unhide HK; omega
        have hcv : ∀ t, t < n → (wr.drewN nq).cell? ⟨g, o + t, none⟩ = some (.int .u32 (G t : Nat)) := hcw
        have hfv : ∀ t, t < n → (wr.drewN nq).frozen? ⟨g, o + t, none⟩ = false := hfw
        have RKV := hide ((unhide RK).drewN nq)
        clear hcw hfw RK
        generalize wr.drewN nq = wv at *
        go_quiet (first | (go_at_call 55; refine Calls.quiet_of_same (less55 _ _ _)))
        go_wp2
        · have hl : cl (G (f + r)) (G (f + k)) = false := nt (by assumption)
          (try simp only [Exit.inBlock, Exit.then]); refine bodyPost_ret (results_none rfl _ _ _) rfl ?_
          exact ⟨rfl, by rw [← unhide HO, unhide KE, ← unhide HG (f + r), ← unhide HG (f + k), hl]; exact (unhide RKV).drewN _⟩
        · have hl : cl (G (f + r)) (G (f + k)) = true := nf (by assumption)
          go_region
          all_goals go_wp2
          go_roundw
          case rel =>
            refine ⟨k, swp dk (f + r) (f + k), by go_num, by omega, by rw [size_swp]; exact hsk, ?_, ?_⟩
            · have := ((unhide RKV).drewN (nq + 1)).swp (f + r) (f + k) (by omega) (by omega)
              rw [← unhide HG (f + r), ← unhide HG (f + k)] at this
              exact this
            · rw [← unhide HO, unhide KE, ← unhide HG (f + r), ← unhide HG (f + k), hl]; rfl
          case measure => simp [intOf]; omega
    · have h1' : (hi : Int) ≤ (k : Int) := by omega
      go_wp2
      go_end0
      exact ⟨rfl, by rw [← unhide HO, sd_leaf _ (by have := unhide HK; omega)]; exact unhide RK⟩
theorem hb_go (hi f k : Nat) (d : Array Nat) : heapBuild cl hi f (k + 1) d = heapBuild cl hi f k (siftDown cl hi f k d) := by rw [heapBuild]
theorem hb_end (hi f : Nat) (d : Array Nat) : heapBuild cl hi f 0 d = d := by rw [heapBuild]
theorem hp_go (f k : Nat) (d : Array Nat) : heapPop cl f (k + 1) d = heapPop cl f k (siftDown cl k f 0 (swp d f (f + k))) := by rw [heapPop]
theorem hp_end (f : Nat) (d : Array Nat) : heapPop cl f 0 d = d := by rw [heapPop]
theorem sd_size (hi f : Nat) (n r : Nat) (d : Array Nat) (h : hi - r ≤ n) : (siftDown cl hi f r d).size = d.size := by
  induction n generalizing r d with
  | zero => rw [sd_leaf d (by omega)]
  | succ n ih =>
    by_cases h1 : 2 * r + 1 < hi
    · by_cases h2 : 2 * r + 2 < hi ∧ cl d[f + (2 * r + 1)]! d[f + (2 * r + 1) + 1]! = true
      · obtain ⟨k1, k2, k3⟩ := kid_right d h2.1 h2.2
        rw [k3]
        split
        · rw [ih _ _ (by omega), size_swp]
        · rfl
      · obtain ⟨k1, k2, k3⟩ := kid_left (r := r) (f := f) d h1 (by
          by_cases h3 : 2 * r + 2 < hi
          · right
            cases hc : cl d[f + (2 * r + 1)]! d[f + (2 * r + 1) + 1]!
            · rfl
            · exact absurd ⟨h3, hc⟩ h2
          · left; omega)
        rw [k3]
        split
        · rw [ih _ _ (by omega), size_swp]
        · rfl
    · rw [sd_leaf d (by omega)]
set_option maxHeartbeats 1600000 in
theorem heap50 {g o n a b : Nat} (c : Nat) {d : Array Nat} {w : World} (R : Row w g o d w) (hd : d.size = n) (hab : a < b) (hb : b ≤ n) (hn : n ≤ 1000000) :
    Calls Try.prog 50 #[.slice (some ⟨g, o, none⟩) n c, .int .i64 a, .int .i64 b] w fun e w' => e = .returned (.tuple #[]) ∧ Row w g o (heapSort cl d a b) w' := by
  have R0 := hide R
  clear R
  obtain ⟨m, hm⟩ : ∃ m : Nat, b = a + m := ⟨b - a, by omega⟩
  have hm' : (b : Int) - (a : Int) = (m : Int) := by omega
  have HM := hide hm
  clear hm
  have hq : ((m : Int) - 1).tdiv 2 = (((m - 1) / 2 : Nat) : Int) := by
    rw [show (m : Int) - 1 = ((m - 1 : Nat) : Int) by have := unhide HM; omega]
    rfl
  have hq' : ((m : Int) - 1) / 2 = (((m - 1) / 2 : Nat) : Int) := by have := unhide HM; omega
  generalize hqe : (m - 1) / 2 = q0 at hq hq'
  have HQ := hide hqe
  clear hqe
  go_enter Try.func50, Try.ntmps50
  go_wp2
  go_loopw [9] (fun vi wr => ∃ (k : Nat) (dk : Array Nat), vi = .int .i64 ((k : Int) - 1) ∧ k ≤ q0 + 1 ∧ dk.size = n ∧ Row w g o dk wr ∧ heapBuild cl m a k dk = heapBuild cl m a (q0 + 1) d) (fun vi _ => (intOf vi + 1).toNat)
  case atStart => exact ⟨q0 + 1, d, by congr 1; omega, Nat.le_refl _, hd, unhide R0, rfl⟩
  case round =>
    obtain ⟨k, dk, rfl, hk, hsk, Rk, hO⟩ := hrel
    have HO := hide hO
    have RK := hide Rk
    clear hO Rk
    cases k with
    | zero =>
      rw [show ((0 : Nat) : Int) - 1 = -1 from rfl]
      go_wp2
      go_loopw [10] (fun vi wr => ∃ (k : Nat) (dk : Array Nat), vi = .int .i64 ((k : Int) - 1) ∧ k ≤ m ∧ dk.size = n ∧ Row w g o dk wr ∧ heapPop cl a k dk = heapSort cl d a b) (fun vi _ => (intOf vi + 1).toNat)
      case atStart =>
        refine ⟨m, dk, rfl, Nat.le_refl _, hsk, unhide RK, ?_⟩
        have e1 := unhide HM
        rw [show heapSort cl d a b = heapPop cl a (b - a) (heapBuild cl (b - a) a ((b - a - 1) / 2 + 1) d) from rfl, show b - a = m by omega, unhide HQ, ← unhide HO, hb_end]
      case round =>
        obtain ⟨k, dk, rfl, hk, hsk, Rk, hO⟩ := hrel
        cases k with
        | zero =>
          rw [hp_end] at hO
          have HO := hide hO
          have RK := hide Rk
          clear hO Rk
          go_wp2
          go_end0
          exact ⟨rfl, by rw [← unhide HO]; exact unhide RK⟩
        | succ k =>
          rw [hp_go] at hO
          have hbm : a + k < n := by have := unhide HM; omega
          rcases Nat.eq_zero_or_pos k with h0 | h0
          · subst h0
            rw [Nat.add_zero] at hO hbm
            have S := hide (fun (w1 : World) (R : Row w1 g o (swp dk a a) w1) => sift60 (lo := 0) (hi := 0) (f := a) c R (by rw [size_swp]; exact hsk) (by omega) (Nat.zero_le _) hn)
            obtain ⟨G, hG⟩ : ∃ G : Nat → Nat, ∀ t, G t = dk[t]! := ⟨fun t => dk[t]!, fun _ => rfl⟩
            have hcw : ∀ t, t < n → wr.cell? ⟨g, o + t, none⟩ = some (.int .u32 (G t : Nat)) := fun t ht => by rw [hG]; exact Rk.cell t (by omega)
            have hfw : ∀ t, t < n → wr.frozen? ⟨g, o + t, none⟩ = false := fun t ht => Rk.free t (by omega)
            have HO := hide hO
            have RK := hide Rk
            have HG := hide hG
            clear hO Rk hG
            have ek : ((0 + 1 : Nat) : Int) - 1 = 0 := by omega
            rw [ek]
            go_wp2_with fail
            go_region
            all_goals go_wp2_with fail
            have RS := ((unhide RK).drewN 1).swp a a (by omega) (by omega)
            rw [← unhide HG a] at RS
            have RSH := hide RS
            refine (unhide S _ RS.self).mono ?_
            rintro e w1 ⟨rfl, R1⟩
            have RT := hide (RS.trans R1)
            clear RS R1
            go_wp2
            go_roundw
            case rel => exact ⟨0, siftDown cl 0 a 0 (swp dk a a), by first | rfl | (congr 1; omega), by omega, by rw [sd_size _ _ _ _ _ (Nat.le_refl _), size_swp]; exact hsk, unhide RT, unhide HO⟩
            case measure => simp [intOf]
          · have h0' : (0 : Int) < (k : Int) := by omega
            have S := hide (fun (w1 : World) (R : Row w1 g o (swp dk a (a + k)) w1) => sift60 (lo := 0) (hi := k) (f := a) c R (by rw [size_swp]; exact hsk) (by omega) (Nat.zero_le _) hn)
            obtain ⟨G, hG⟩ : ∃ G : Nat → Nat, ∀ t, G t = dk[t]! := ⟨fun t => dk[t]!, fun _ => rfl⟩
            have hcw : ∀ t, t < n → wr.cell? ⟨g, o + t, none⟩ = some (.int .u32 (G t : Nat)) := fun t ht => by rw [hG]; exact Rk.cell t (by omega)
            have hfw : ∀ t, t < n → wr.frozen? ⟨g, o + t, none⟩ = false := fun t ht => Rk.free t (by omega)
            have HO := hide hO
            have RK := hide Rk
            have HG := hide hG
            clear hO Rk hG
            have ek : ((k + 1 : Nat) : Int) - 1 = (k : Int) := by omega
            rw [ek]
            go_wp2_with fail
            go_region
            all_goals go_wp2_with fail
            have RS := ((unhide RK).drewN 1).swp a (a + k) (by omega) (by omega)
            rw [← unhide HG a, ← unhide HG (a + k)] at RS
            have RSH := hide RS
            refine (unhide S _ RS.self).mono ?_
            rintro e w1 ⟨rfl, R1⟩
            have RT := hide (RS.trans R1)
            clear RS R1
            go_wp2
            go_roundw
            case rel => exact ⟨k, siftDown cl k a 0 (swp dk a (a + k)), by first | rfl | (congr 1; omega), by omega, by rw [sd_size _ _ _ _ _ (Nat.le_refl _), size_swp]; exact hsk, unhide RT, unhide HO⟩
            case measure => simp [intOf]
    | succ k =>
      rw [hb_go] at HO
      have ek : ((k + 1 : Nat) : Int) - 1 = (k : Int) := by omega
      have S := hide (sift60 (lo := k) (hi := m) (f := a) c (unhide RK).self hsk (by have := unhide HM; omega) (by have := unhide HQ; omega) hn)
      rw [ek]
      go_wp2_with fail
      refine (unhide S).mono ?_
      rintro e w1 ⟨rfl, R1⟩
      have RT := hide ((unhide RK).trans R1)
      clear R1
      go_wp2
      go_roundw
      case rel => exact ⟨k, siftDown cl m a k dk, by first | rfl | (congr 1; omega), by omega, by rw [sd_size _ _ _ _ _ (Nat.le_refl _)]; exact hsk, unhide RT, unhide HO⟩
      case measure => simp [intOf]
end Go.Proofs.Ytflmlbdcjjldgaa.QSif
