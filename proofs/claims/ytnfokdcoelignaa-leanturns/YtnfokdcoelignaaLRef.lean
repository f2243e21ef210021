/- Contracts: the document's Pixels and Same, of what is the same; its Modes. Conditions: pixels and modes are few. -/
import Derived.Test.YtnfokdcoelignaaLSnd
namespace Go.Proofs.Ytnfokdcoelignaa.LRef
set_option linter.unusedVariables false
open Go.ChangeShapes Go.WideShapes Go.ChangeAt Go.RowKit Go.Sort Go.Proofs.Ytnfokdcoelignaa.Core Go.Proofs.Ytnfokdcoelignaa.PNum Go.Proofs.Ytnfokdcoelignaa.PFun Go.Proofs.Ytnfokdcoelignaa.PGoo Go.Proofs.Ytnfokdcoelignaa.GGue Go.Proofs.Ytnfokdcoelignaa.GImg Go.Proofs.Ytnfokdcoelignaa.GAro Go.Proofs.Ytnfokdcoelignaa.GAtt Go.Proofs.Ytnfokdcoelignaa.GCpy Go.Proofs.Ytnfokdcoelignaa.LBlk Go.Proofs.Ytnfokdcoelignaa.LMod Go.Proofs.Ytnfokdcoelignaa.LSnd

theorem Pixs.congr {w : World} {b off n : Nat} {z z' : Nat → Nat} (h : Pixs w b off n z) (e : ∀ i, i < n → z i = z' i) : Pixs w b off n z' := fun i hi => by rw [← e i hi]; exact h i hi
set_option maxHeartbeats 400000 in
theorem rpix14 {b off b' off' n : Nat} {z : Nat → Nat} (c c' : Nat) {w : World} (h : Pixs w b off n z) (h' : Pixs w b' off' n z) (hn : n ≤ 1000000) :
    Calls Try.prog 14 #[.slice (some ⟨b, off, none⟩) n c, .slice (some ⟨b', off', none⟩) n c'] w fun e w' => e = .returned (.bool true) ∧ Below w.heap.size w w' := by
  have P := hide h
  have P' := hide h'
  clear h h'
  go_enter Try.func14, Try.ntmps14
  go_wp2
  go_loopw [5] (fun i wr => ∃ j : Nat, j ≤ n ∧ i = .int .i64 j ∧ Below w.heap.size w wr) (fun i _ => n - (intOf i).toNat)
  case atStart => exact ⟨0, Nat.zero_le _, rfl, Below.refl _ _⟩
  case round =>
    obtain ⟨j, hj, rfl, B⟩ := hrel
    have BB := hide B
    by_cases hlt : j < n
    · have hlt' : (j : Int) < (n : Int) := by omega
      have c1 := (unhide P).below B j hlt
      have c2 := (unhide P').below B j hlt
      clear B
      generalize z j = v at *
      go_wp2_with fail
      go_quiet (fail)
      go_wp2
      go_roundw
      case rel => exact ⟨j + 1, by omega, by go_num, below_drew (unhide BB) _⟩
      case measure => simp [intOf]; omega
    · obtain rfl : j = n := by omega
      clear B
      go_wp2
      go_ret
      exact ⟨rfl, unhide BB⟩
set_option maxHeartbeats 400000 in
theorem rsame12 {b off b' off' n : Nat} {z : Nat → Nat} (W H : Int) (c c' : Nat) {w : World} (h : Pixs w b off n z) (h' : Pixs w b' off' n z) (hn : n ≤ 1000000) :
    Calls Try.prog 12 #[.agg #[.int .i64 W, .int .i64 H, .slice (some ⟨b, off, none⟩) n c], .agg #[.int .i64 W, .int .i64 H, .slice (some ⟨b', off', none⟩) n c']] w fun e w' => e = .returned (.bool true) ∧ Below w.heap.size w w' := by
  have BL := hide (bel_a2 w (.cells #[.int .i64 W, .int .i64 H, .slice (some ⟨b, off, none⟩) n c] 24) (.cells #[.int .i64 W, .int .i64 H, .slice (some ⟨b', off', none⟩) n c'] 24))
  have Q := hide (rpix14 c c' (h.below (unhide BL)) (h'.below (unhide BL)) hn)
  clear h h'
  go_enter Try.func12, Try.ntmps12
  go_wp2_with fail
  refine (unhide Q).mono ?_
  rintro e w1 ⟨rfl, b1⟩
  have B1 := hide (below_two (unhide BL) b1)
  clear b1
  go_wp2
  go_ret
  exact ⟨rfl, unhide B1⟩
set_option maxHeartbeats 1000000 in
theorem mds_bad (W H k : Int) (a a' : Option Addr) (n c m cm : Nat) (w : World) (HG : gdV W H n = false) :
    Calls Try.prog 10 #[.agg #[.int .i64 W, .int .i64 H, .slice a n c], .int .i64 k, .slice a' m cm] w fun e w' => e = .returned (.bool false) ∧ Below w.heap.size w w' := by
  have BL := hide (bel_a1 w (.cells #[.int .i64 W, .int .i64 H, .slice a n c] 24))
  have BX := hide (Box.made w 24 #[.int .i64 W, .int .i64 H, .slice a n c])
  have HG0 := hide HG
  clear HG
  go_enter Try.func10, Try.ntmps10
  go_wp2_with fail
  refine (rgood25 _ _ _ _ _ _).mono ?_
  rintro e w1 ⟨rfl, b1⟩
  have B1 := hide (below_two (unhide BL) b1)
  obtain ⟨c0, c1, c2⟩ := keep_image (unhide BX) b1
  clear b1
  rw [unhide HG0]
  go_wp2
  go_ret
  exact ⟨rfl, unhide B1⟩
set_option maxHeartbeats 1000000 in
theorem mds_low (W H k : Int) (a a' : Option Addr) (n c m cm : Nat) (w : World) (HG : gdV W H n = true) (hd : decide (k < (2 : Int)) = true) :
    Calls Try.prog 10 #[.agg #[.int .i64 W, .int .i64 H, .slice a n c], .int .i64 k, .slice a' m cm] w fun e w' => e = .returned (.bool false) ∧ Below w.heap.size w w' := by
  have BL := hide (bel_a1 w (.cells #[.int .i64 W, .int .i64 H, .slice a n c] 24))
  have BX := hide (Box.made w 24 #[.int .i64 W, .int .i64 H, .slice a n c])
  have HG0 := hide HG
  clear HG
  go_enter Try.func10, Try.ntmps10
  go_wp2_with fail
  refine (rgood25 _ _ _ _ _ _).mono ?_
  rintro e w1 ⟨rfl, b1⟩
  have B1 := hide (below_two (unhide BL) b1)
  obtain ⟨c0, c1, c2⟩ := keep_image (unhide BX) b1
  clear b1
  rw [unhide HG0]
  go_wp2
  go_ret
  exact ⟨rfl, unhide B1⟩
set_option maxHeartbeats 1000000 in
theorem mds_high (W H k : Int) (a a' : Option Addr) (n c m cm : Nat) (w : World) (HG : gdV W H n = true) (hd : decide (k < (2 : Int)) = false) (hd9 : decide ((9 : Int) < k) = true) :
    Calls Try.prog 10 #[.agg #[.int .i64 W, .int .i64 H, .slice a n c], .int .i64 k, .slice a' m cm] w fun e w' => e = .returned (.bool false) ∧ Below w.heap.size w w' := by
  have BL := hide (bel_a1 w (.cells #[.int .i64 W, .int .i64 H, .slice a n c] 24))
  have BX := hide (Box.made w 24 #[.int .i64 W, .int .i64 H, .slice a n c])
  have HG0 := hide HG
  clear HG
  go_enter Try.func10, Try.ntmps10
  go_wp2_with fail
  refine (rgood25 _ _ _ _ _ _).mono ?_
  rintro e w1 ⟨rfl, b1⟩
  have B1 := hide (below_two (unhide BL) b1)
  obtain ⟨c0, c1, c2⟩ := keep_image (unhide BX) b1
  clear b1
  rw [unhide HG0]
  go_wp2
  go_ret
  exact ⟨rfl, unhide B1⟩
set_option maxHeartbeats 1000000 in
theorem mds_fit (W H k : Nat) (a a' : Option Addr) (n c m cm : Nat) (w : World) (HG : gdV W H n = true) (hW : W ≤ 16384) (hH : H ≤ 16384) (hd : decide ((k : Int) < (2 : Int)) = false) (hd9 : decide ((9 : Int) < (k : Int)) = false) (hk : k ≤ 9) (HF : ((m : Int) != ((bl W k * bl H k : Nat) : Int)) = true) :
    Calls Try.prog 10 #[.agg #[.int .i64 W, .int .i64 H, .slice a n c], .int .i64 k, .slice a' m cm] w fun e w' => e = .returned (.bool false) ∧ Below w.heap.size w w' := by
  have BL := hide (bel_a1 w (.cells #[.int .i64 W, .int .i64 H, .slice a n c] 24))
  have BX := hide (Box.made w 24 #[.int .i64 W, .int .i64 H, .slice a n c])
  have HG0 := hide HG
  clear HG
  go_enter Try.func10, Try.ntmps10
  go_wp2_with fail
  refine (rgood25 _ _ _ _ _ _).mono ?_
  rintro e w1 ⟨rfl, b1⟩
  have B1 := hide (below_two (unhide BL) b1)
  obtain ⟨c0, c1, c2⟩ := keep_image (unhide BX) b1
  clear b1
  rw [unhide HG0]
  go_wp2_with fail
  refine (rmany26 W H k a n c _ hW hH hk).mono ?_
  rintro e w2 ⟨rfl, b2⟩
  have B2 := hide (below_two (unhide B1) b2)
  clear b2 c0 c1 c2
  generalize bl W k * bl H k = r at *
  go_wp2
  go_ret
  exact ⟨rfl, unhide B2⟩
set_option maxHeartbeats 1000000 in
theorem mds_in (W H k : Nat) (md : Nat → Int) (a a' : Option Addr) (n c m cm : Nat) (w : World) (HG : gdV W H n = true) (hW : W ≤ 16384) (hH : H ≤ 16384) (hd : decide ((k : Int) < (2 : Int)) = false) (hd9 : decide ((9 : Int) < (k : Int)) = false) (hk : k ≤ 9) (HF : ((m : Int) != ((bl W k * bl H k : Nat) : Int)) = false) (hl : m ≤ 1000000) (src : Mds w a' m md) :
    Calls Try.prog 10 #[.agg #[.int .i64 W, .int .i64 H, .slice a n c], .int .i64 k, .slice a' m cm] w fun e w' => e = .returned (.bool (mdB md m)) ∧ Below w.heap.size w w' := by
  have BL := hide (bel_a1 w (.cells #[.int .i64 W, .int .i64 H, .slice a n c] 24))
  have BX := hide (Box.made w 24 #[.int .i64 W, .int .i64 H, .slice a n c])
  have HG0 := hide HG
  have SRC := hide src
  clear HG src
  go_enter Try.func10, Try.ntmps10
  go_wp2_with fail
  refine (rgood25 _ _ _ _ _ _).mono ?_
  rintro e w1 ⟨rfl, b1⟩
  have B1 := hide (below_two (unhide BL) b1)
  obtain ⟨c0, c1, c2⟩ := keep_image (unhide BX) b1
  clear b1
  rw [unhide HG0]
  go_wp2_with fail
  refine (rmany26 W H k a n c _ hW hH hk).mono ?_
  rintro e w2 ⟨rfl, b2⟩
  have B2 := hide (below_two (unhide B1) b2)
  clear b2 c0 c1 c2
  generalize bl W k * bl H k = r at *
  go_wp2_with fail
  go_loopw [7] (fun i wr => ∃ j : Nat, j ≤ m ∧ i = .int .i64 j ∧ (∀ q, q < j → 0 ≤ md q ∧ md q ≤ 15) ∧ wr = w2) (fun i _ => m - (intOf i).toNat)
  case atStart => exact ⟨0, Nat.zero_le _, rfl, fun q hq => by omega, rfl⟩
  case round =>
    obtain ⟨j, hj, rfl, good, rfl⟩ := hrel
    have GOOD := hide good
    clear good
    by_cases hlt : j < m
    · have hlt' : (j : Int) < (m : Int) := by omega
      obtain ⟨bb, off, rfl, hcell⟩ := (unhide SRC).below (unhide B2) j hlt
      by_cases h1 : md j < 0
      · have N := hide (mdB_no hlt (.inl h1))
        go_wp2
        go_ret
        exact ⟨ret_bool (unhide N).symm, unhide B2⟩
      · by_cases h2 : 15 < md j
        · have N := hide (mdB_no hlt (.inr h2))
          go_wp2
          go_ret
          exact ⟨ret_bool (unhide N).symm, unhide B2⟩
        · have H1 := hide h1
          have H2 := hide h2
          go_wp2
          go_roundw
          case rel =>
            refine ⟨j + 1, by omega, by go_num, fun q hq => ?_, by first | rfl | trivial⟩
            by_cases e : q = j
            · subst e
              have := unhide H1
              have := unhide H2
              omega
            · exact unhide GOOD q (by omega)
          case measure => simp [intOf]; omega
    · obtain rfl : j = m := by omega
      have N := hide (mdB_yes (unhide GOOD))
      go_wp2
      go_ret
      exact ⟨ret_bool (unhide N).symm, unhide B2⟩
theorem so_in {W H n k m : Nat} (md : Nat → Int) (hg : gdV W H n = true) (h2 : 2 ≤ k) (h9 : k ≤ 9) (h : m = bl W k * bl H k) : soV W H n k m md = mdB md m := by
  rcases Bool.eq_false_or_eq_true (mdB md m) with hm | hm
  · rw [so_yes hg h2 h9 h hm, hm]
  · rw [so_md _ _ _ _ hm, hm]
theorem rmodes10 (W H bits : Int) (a a' : Option Addr) (n c m cm : Nat) (md : Nat → Int) (w : World) (hl : m ≤ 1000000) (src : Mds w a' m md) :
    Calls Try.prog 10 #[.agg #[.int .i64 W, .int .i64 H, .slice a n c], .int .i64 bits, .slice a' m cm] w fun e w' => e = .returned (.bool (soV W H n bits m md)) ∧ Below w.heap.size w w' := by
  rcases Bool.eq_false_or_eq_true (gdV W H n) with hg | hg
  · by_cases h2 : bits < 2
    · rw [so_bits _ _ _ _ _ (.inl h2)]
      exact mds_low W H bits a a' n c m cm w hg (decide_eq_true h2)
    · by_cases h9 : 9 < bits
      · rw [so_bits _ _ _ _ _ (.inr h9)]
        exact mds_high W H bits a a' n c m cm w hg (decide_eq_false h2) (decide_eq_true h9)
      · obtain ⟨W, H, rfl, rfl, h1, h3, h4, h5, h6⟩ := gd_of hg
        obtain ⟨k, rfl⟩ := Int.eq_ofNat_of_zero_le (a := bits) (by omega)
        by_cases hf : m = bl W k * bl H k
        · have HF : ((m : Int) != ((bl W k * bl H k : Nat) : Int)) = false := by rw [hf]; simp
          rw [so_in md hg (by omega) (by omega) hf]
          exact mds_in W H k md a a' n c m cm w hg h3 h5 (decide_eq_false h2) (decide_eq_false h9) (by omega) HF hl src
        · have HF : ((m : Int) != ((bl W k * bl H k : Nat) : Int)) = true := bne_iff_ne.2 fun h => hf (Int.ofNat.inj h)
          rw [so_fit W H n k md hf]
          exact mds_fit W H k a a' n c m cm w hg h3 h5 (decide_eq_false h2) (decide_eq_false h9) (by omega) HF
  · rw [so_bad _ _ _ hg]
    exact mds_bad W H bits a a' n c m cm w hg
end Go.Proofs.Ytnfokdcoelignaa.LRef
