/- Contracts: size.Best where it may not answer; ref.Check. Conditions: the slice reads as integers, and they are few. -/
import Derived.Test.YtcfnbbelbadmkaaGth
namespace Go.Proofs.Ytcfnbbelbadmkaa.Bad
open Go.ChangeShapes Go.WideShapes Go.ChangeAt Go.RowKit Go.Proofs.Ytcfnbbelbadmkaa.Core Go.Proofs.Ytcfnbbelbadmkaa.Gnd Go.Proofs.Ytcfnbbelbadmkaa.Math Go.Proofs.Ytcfnbbelbadmkaa.Srt Go.Proofs.Ytcfnbbelbadmkaa.Ris Go.Proofs.Ytcfnbbelbadmkaa.Ris2 Go.Proofs.Ytcfnbbelbadmkaa.Bst

set_option maxRecDepth 20000 in
set_option maxHeartbeats 2000000 in
theorem bst_most (v : Value) (len : Nat) (m : Int) (c : Nat → Int) (w : World) (src : Ints .i64 w v len c) (hm : m < 1 ∨ 15 < m) :
    Calls Try.prog 9 #[v, .int .i64 m] w fun e w' => e = .returned (.tuple #[.slice none 0 0, .int .i64 1]) ∧ Below w.heap.size w w' := by
  obtain ⟨a, cap, rfl, _⟩ := src
  by_cases h1 : m < 1
  · have h1' : decide (m < 1) = true := decide_eq_true h1
    go_enter Try.func9, Try.ntmps9
    go_wp2
    go_ret2
    exact ⟨rfl, Below.refl _ _⟩
  · have h1' : decide (m < 1) = false := decide_eq_false h1
    have h2' : decide (15 < m) = true := decide_eq_true (by omega)
    go_enter Try.func9, Try.ntmps9
    go_wp2
    go_ret2
    exact ⟨rfl, Below.refl _ _⟩
set_option maxRecDepth 20000 in
set_option maxHeartbeats 2000000 in
theorem bst_not (v : Value) (len m : Nat) (c : Nat → Int) (w : World) (src : Ints .i64 w v len c) (hl : len ≤ 4096) (hm : 1 ≤ m) (hm2 : m ≤ 15) (bad : ¬ Okc c len ∨ 2 ^ m < (pos c len).length) :
    Calls Try.prog 9 #[v, .int .i64 m] w fun e w' => e = .returned (.tuple #[.slice none 0 0, .int .i64 1]) ∧ Below w.heap.size w w' := by
  have CG := hide (good13 v len c hl w src)
  have SRC := hide src
  obtain ⟨a, cap, rfl, _⟩ := src
  have hm' : ¬ (m : Int) < 1 := by omega
  have hm2' : ¬ (15 : Int) < (m : Int) := by omega
  by_cases ok : Okc c len
  · have CR := hide (ris14 _ len c hl w (unhide SRC) ok)
    have okb := (okB_iff c len).2 ok
    rw [okb] at CG
    obtain ⟨P, hP⟩ : ∃ P : Nat, wrap64 ((2 : Int) ^ m) = (P : Int) ∧ P = 2 ^ m := ⟨2 ^ m, by
      have h1 : 2 ^ m ≤ 2 ^ 15 := Nat.pow_le_pow_right (by omega) hm2
      have e : ((2 ^ m : Nat) : Int) = (2 : Int) ^ m := by simp
      rw [← e]
      generalize 2 ^ m = z at *
      simp [wrap64]
      omega, rfl⟩
    obtain ⟨hP, hP2⟩ := hP
    have hnP : (P : Int) < (((pos c len).length : Nat) : Int) := by
      rcases bad with h | h
      · exact absurd ok h
      · omega
    clear ok okb hP2 bad
    go_enter Try.func9, Try.ntmps9
    go_wp2_with fail
    refine (unhide CG).mono ?_
    rintro e w0 ⟨rfl, rfl⟩
    go_wp2_with fail
    refine (unhide CR).mono ?_
    rintro e w1 ⟨u, s, rfl, rose⟩
    have RB := hide rose.bel
    obtain ⟨ua, ucap, rfl, hroom⟩ := rose.room
    clear rose CR CG
    go_wp2
    go_ret2
    exact ⟨rfl, unhide RB⟩
  · have okb : okB c len = false := eq_false_of_ne_true (fun h => ok ((okB_iff c len).1 h))
    rw [okb] at CG
    clear ok okb bad
    go_enter Try.func9, Try.ntmps9
    go_wp2_with fail
    refine (unhide CG).mono ?_
    rintro e w0 ⟨rfl, rfl⟩
    go_wp2
    go_ret2
    exact ⟨rfl, Below.refl _ _⟩
theorem pt2_of {x : Int} {m : Nat} (h : x = (m : Int)) (h0 : m ≠ 0) : pt2 x = 2 ^ (15 - m) := by
  unfold pt2
  rw [if_neg (by omega), h]
  rfl
theorem Rng.next {c : Nat → Int} {k : Nat} (h : Rng c k) (h1 : 0 ≤ c k) (h2 : c k ≤ 15) : Rng c (k + 1) := fun j hj => by
  by_cases e : j = k
  · subst e; exact ⟨h1, h2⟩
  · exact h j (by omega)
set_option maxHeartbeats 2000000 in
theorem rcheck12 (v : Value) (len : Nat) (c : Nat → Int) (hl : len ≤ 100000) (w : World) (src : Ints .i64 w v len c) :
    Calls Try.prog 10 #[v] w fun e w' => e = .returned (.int .i64 (chk c len)) ∧ w' = w := by
  obtain ⟨a, cap, rfl, hs⟩ := src
  have SRC := hide hs
  clear hs
  go_enter Try.func10, Try.ntmps10
  go_wp2
  go_loopw [3, 4, 5] (fun s m i wr => ∃ k : Nat, k ≤ len ∧ i = .int .i64 k ∧ s = .int .i64 (kr c k) ∧ m = .int .i64 (many c k) ∧ Rng c k ∧ wr = w) (fun _ _ i _ => len - (intOf i).toNat)
  case atStart => exact ⟨0, Nat.zero_le _, rfl, rfl, rfl, fun j hj => by omega, rfl⟩
  case round =>
    obtain ⟨k, hk, rfl, rfl, rfl, good, rfl⟩ := hrel
    have GOOD := hide good
    clear good
    by_cases hlt : k < len
    · have hlt' : (k : Int) < (len : Int) := by omega
      obtain ⟨b, off, rfl, hcell⟩ := unhide SRC k hlt
      have ml := many_le c k
      have kl := kr_le c k
      by_cases h1 : c k < 0
      · have BAD : Hid (chk c len = 8) := by
          unfold Hid chk
          rw [if_neg (fun h => by have := (rngB_iff c len).1 h k hlt; omega)]
        go_wp2
        go_ret
        exact ⟨by rw [unhide BAD]; rfl, rfl⟩
      · by_cases h2 : 15 < c k
        · have BAD : Hid (chk c len = 8) := by
            unfold Hid chk
            rw [if_neg (fun h => by have := (rngB_iff c len).1 h k hlt; omega)]
          go_wp2
          go_ret
          exact ⟨by rw [unhide BAD]; rfl, rfl⟩
        · have NEXT := hide (Rng.next (unhide GOOD) (by omega) (by omega))
          by_cases hz : c k = 0
          · have E1 : Hid (many c (k + 1) = many c k) := by simp [Hid, many, hz]
            have E2 : Hid (kr c (k + 1) = kr c k) := by simp [Hid, kr, pt2, hz]
            rw [hz] at hcell
            clear hz h1 h2
            go_wp2
            go_roundw
            case rel => exact ⟨k + 1, by omega, by go_num, by rw [unhide E2], by rw [unhide E1], unhide NEXT, by first | rfl | trivial⟩
            case measure => simp [intOf]; omega
          · obtain ⟨m, hcm⟩ : ∃ m : Nat, c k = (m : Int) := ⟨(c k).toNat, by omega⟩
            have E1 : Hid (many c (k + 1) = many c k + 1) := by simp [Hid, many, hz]
            have E2 : Hid (kr c (k + 1) = kr c k + 2 ^ (15 - m)) := by
              have := pt2_of hcm (by omega)
              simp [Hid, kr, this]
            rw [hcm] at hcell h1 h2 hz
            have HCM := hide hcm
            have hm0 : 0 < m := by omega
            have hm : m ≤ 15 := by omega
            clear hcm h1 h2 hz
            generalize kr c k = x at *
            generalize many c k = y at *
            go_wp2
            go_loopw [6, 7] (fun p j wi => ∃ q : Nat, q ≤ m ∧ j = .int .i64 q ∧ p = .int .i64 (2 ^ (15 - q) : Nat) ∧ wi = wr) (fun _ j _ => m - (intOf j).toNat)
            case atStart => exact ⟨0, Nat.zero_le _, rfl, rfl, rfl⟩
            case round =>
              obtain ⟨q, hq, rfl, rfl, rfl⟩ := hrel
              have hzb : 2 ^ (15 - q) ≤ 2 ^ 15 := Nat.pow_le_pow_right (by omega) (by omega)
              by_cases hqm : q < m
              · have hqm' : (q : Int) < (m : Int) := by omega
                have ZZ : Hid (2 ^ (15 - q) = 2 * 2 ^ (15 - (q + 1))) := by
                  unfold Hid
                  rw [show 15 - q = (15 - (q + 1)) + 1 by omega, Nat.pow_succ, Nat.mul_comm]
                generalize hz : 2 ^ (15 - q) = z at *
                go_wp2
                go_roundw
                case rel => exact ⟨q + 1, by omega, by go_num, by have := unhide ZZ; congr 1; omega, by first | rfl | trivial⟩
                case measure => simp [intOf]; omega
              · obtain rfl : q = m := by omega
                generalize 2 ^ (15 - q) = z at *
                go_wp2
                go_roundw
                case rel => exact ⟨k + 1, by omega, by go_num, by rw [unhide E2]; go_num, by rw [unhide E1]; go_num, unhide NEXT, by first | rfl | trivial⟩
                case measure => simp [intOf]; omega
    · obtain rfl : k = len := by omega
      have ml := many_le c k
      have kl := kr_le c k
      by_cases hm : many c k = 1
      · have C0 : Hid (chk c k = 0) := by
          unfold Hid chk
          rw [if_pos ((rngB_iff c k).2 (unhide GOOD)), if_pos (Or.inl hm)]
        have hm' : (many c k : Int) = 1 := by omega
        clear hm
        go_wp2
        go_ret
        exact ⟨by rw [unhide C0]; rfl, rfl⟩
      · have hm' : ¬ (many c k : Int) = 1 := by omega
        by_cases hkr : kr c k = 32768
        · have C0 : Hid (chk c k = 0) := by
            unfold Hid chk
            rw [if_pos ((rngB_iff c k).2 (unhide GOOD)), if_pos (Or.inr hkr)]
          have hk' : (kr c k : Int) = 32768 := by omega
          clear hm hkr
          go_wp2
          go_ret
          exact ⟨by rw [unhide C0]; rfl, rfl⟩
        · have C0 : Hid (chk c k = 3) := by
            unfold Hid chk
            rw [if_pos ((rngB_iff c k).2 (unhide GOOD)), if_neg (fun h => h.elim hm hkr)]
          have d1 : (((many c k : Nat) : Int) == 1) = false := beq_eq_false_iff_ne.2 (by omega)
          have d2 : (((kr c k : Nat) : Int) == 32768) = false := beq_eq_false_iff_ne.2 (by omega)
          clear hm hkr hm'
          go_wp2
          go_ret
          exact ⟨by rw [unhide C0]; rfl, rfl⟩
end Go.Proofs.Ytcfnbbelbadmkaa.Bad
