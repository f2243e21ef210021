/- Contracts: Guess, the program's and the document's, by one function of numbers. Conditions: none on the mode. -/
import Derived.Test.YtnfokdcoelignaaPGoo
namespace Go.Proofs.Ytnfokdcoelignaa.GGue
open Go.ChangeShapes Go.WideShapes Go.ChangeAt Go.RowKit Go.Proofs.Ytnfokdcoelignaa.Core Go.Proofs.Ytnfokdcoelignaa.PNum Go.Proofs.Ytnfokdcoelignaa.PPrt Go.Proofs.Ytnfokdcoelignaa.PFun Go.Proofs.Ytnfokdcoelignaa.PRfn

/-- What a mode makes of the pixels at the left, above, above at the left and above at the right. -/
def gsV (m : Int) (l t u r : Nat) : Nat :=
  if m = 1 then l else
  if m = 2 then t else
  if m = 3 then r else
  if m = 4 then u else
  if m = 5 then avgV (avgV l r) t else
  if m = 6 then avgV l u else
  if m = 7 then avgV l t else
  if m = 8 then avgV u t else
  if m = 9 then avgV t r else
  if m = 10 then avgV (avgV l u) (avgV t r) else
  if m = 11 then pickV l t u else
  if m = 12 then fullV l t u else
  if m = 13 then halfV (avgV l t) u else
  4278190080
theorem gs_1 (l t u r : Nat) : gsV 1 l t u r = l := by simp [gsV]
theorem gs_2 (l t u r : Nat) : gsV 2 l t u r = t := by simp [gsV]
theorem gs_3 (l t u r : Nat) : gsV 3 l t u r = r := by simp [gsV]
theorem gs_4 (l t u r : Nat) : gsV 4 l t u r = u := by simp [gsV]
theorem gs_5 (l t u r : Nat) : gsV 5 l t u r = avgV (avgV l r) t := by simp [gsV]
theorem gs_6 (l t u r : Nat) : gsV 6 l t u r = avgV l u := by simp [gsV]
theorem gs_7 (l t u r : Nat) : gsV 7 l t u r = avgV l t := by simp [gsV]
theorem gs_8 (l t u r : Nat) : gsV 8 l t u r = avgV u t := by simp [gsV]
theorem gs_9 (l t u r : Nat) : gsV 9 l t u r = avgV t r := by simp [gsV]
theorem gs_10 (l t u r : Nat) : gsV 10 l t u r = avgV (avgV l u) (avgV t r) := by simp [gsV]
theorem gs_11 (l t u r : Nat) : gsV 11 l t u r = pickV l t u := by simp [gsV]
theorem gs_12 (l t u r : Nat) : gsV 12 l t u r = fullV l t u := by simp [gsV]
theorem gs_13 (l t u r : Nat) : gsV 13 l t u r = halfV (avgV l t) u := by simp [gsV]
theorem gs_no {m : Int} (l t u r : Nat) (h : m < 1 ∨ 13 < m) : gsV m l t u r = 4278190080 := by
  unfold gsV
  rw [if_neg (by omega), if_neg (by omega), if_neg (by omega), if_neg (by omega), if_neg (by omega), if_neg (by omega), if_neg (by omega), if_neg (by omega), if_neg (by omega), if_neg (by omega), if_neg (by omega), if_neg (by omega), if_neg (by omega)]
theorem gs_in {m : Int} (h0 : 1 ≤ m) (h1 : m ≤ 13) : m = 1 ∨ m = 2 ∨ m = 3 ∨ m = 4 ∨ m = 5 ∨ m = 6 ∨ m = 7 ∨ m = 8 ∨ m = 9 ∨ m = 10 ∨ m = 11 ∨ m = 12 ∨ m = 13 := by omega
theorem gs_lt (m : Int) {l t u r : Nat} (hl : l < 4294967296) (ht : t < 4294967296) (hu : u < 4294967296) (hr : r < 4294967296) : gsV m l t u r < 4294967296 := by
  by_cases h : m < 1 ∨ 13 < m
  · rw [gs_no _ _ _ _ h]; omega
  · rcases gs_in (m := m) (by omega) (by omega) with rfl | rfl | rfl | rfl | rfl | rfl | rfl | rfl | rfl | rfl | rfl | rfl | rfl
    · rw [gs_1]; exact hl
    · rw [gs_2]; exact ht
    · rw [gs_3]; exact hr
    · rw [gs_4]; exact hu
    · rw [gs_5]; exact avgV_lt _ _
    · rw [gs_6]; exact avgV_lt _ _
    · rw [gs_7]; exact avgV_lt _ _
    · rw [gs_8]; exact avgV_lt _ _
    · rw [gs_9]; exact avgV_lt _ _
    · rw [gs_10]; exact avgV_lt _ _
    · rw [gs_11]; exact pickV_lt _ hl ht
    · rw [gs_12]; exact fullV_lt _ _ _
    · rw [gs_13]; exact halfV_lt _ _
set_option maxHeartbeats 1000000 in
theorem guess8 (m : Int) (l t u r : Nat) (w : World) :
    Calls Try.prog 43 #[.int .i64 m, .int .u32 l, .int .u32 t, .int .u32 u, .int .u32 r] w fun e w' => e = .returned (.int .u32 (gsV m l t u r)) ∧ Below w.heap.size w w' := by
  by_cases h : m < 1 ∨ 13 < m
  · have G := hide (gs_no l t u r h)
    have n1 : ¬ m = 1 := by omega
    have n2 : ¬ m = 2 := by omega
    have n3 : ¬ m = 3 := by omega
    have n4 : ¬ m = 4 := by omega
    have n5 : ¬ m = 5 := by omega
    have n6 : ¬ m = 6 := by omega
    have n7 : ¬ m = 7 := by omega
    have n8 : ¬ m = 8 := by omega
    have n9 : ¬ m = 9 := by omega
    have n10 : ¬ m = 10 := by omega
    have n11 : ¬ m = 11 := by omega
    have n12 : ¬ m = 12 := by omega
    have n13 : ¬ m = 13 := by omega
    clear h
    go_enter Try.func43, Try.ntmps43
    go_wp2
    go_ret
    exact ⟨ret_int (congrArg Int.ofNat (unhide G)).symm, Below.refl _ _⟩
  · rcases gs_in (m := m) (by omega) (by omega) with rfl | rfl | rfl | rfl | rfl | rfl | rfl | rfl | rfl | rfl | rfl | rfl | rfl
    · clear h
      have G := hide (gs_1 l t u r)
      go_enter Try.func43, Try.ntmps43
      go_wp2
      go_ret
      exact ⟨ret_int (congrArg Int.ofNat (unhide G)).symm, Below.refl _ _⟩
    · clear h
      have G := hide (gs_2 l t u r)
      go_enter Try.func43, Try.ntmps43
      go_wp2
      go_ret
      exact ⟨ret_int (congrArg Int.ofNat (unhide G)).symm, Below.refl _ _⟩
    · clear h
      have G := hide (gs_3 l t u r)
      go_enter Try.func43, Try.ntmps43
      go_wp2
      go_ret
      exact ⟨ret_int (congrArg Int.ofNat (unhide G)).symm, Below.refl _ _⟩
    · clear h
      have G := hide (gs_4 l t u r)
      go_enter Try.func43, Try.ntmps43
      go_wp2
      go_ret
      exact ⟨ret_int (congrArg Int.ofNat (unhide G)).symm, Below.refl _ _⟩
    · clear h
      have G := hide (gs_5 l t u r)
      go_enter Try.func43, Try.ntmps43
      go_wp2_with fail
      refine (avg16 _ _ _).mono ?_
      rintro e w1 ⟨rfl, b1⟩
      have B1 := hide b1
      clear b1
      go_wp2_with fail
      refine (avg16 _ _ _).mono ?_
      rintro e w2 ⟨rfl, b2⟩
      have B2 := hide ((unhide B1).trans (b2.mono (unhide B1).size))
      clear b2
      go_wp2
      go_ret
      exact ⟨ret_int (congrArg Int.ofNat (unhide G)).symm, unhide B2⟩
    · clear h
      have G := hide (gs_6 l t u r)
      go_enter Try.func43, Try.ntmps43
      go_wp2_with fail
      refine (avg16 _ _ _).mono ?_
      rintro e w1 ⟨rfl, b1⟩
      have B1 := hide b1
      clear b1
      go_wp2
      go_ret
      exact ⟨ret_int (congrArg Int.ofNat (unhide G)).symm, unhide B1⟩
    · clear h
      have G := hide (gs_7 l t u r)
      go_enter Try.func43, Try.ntmps43
      go_wp2_with fail
      refine (avg16 _ _ _).mono ?_
      rintro e w1 ⟨rfl, b1⟩
      have B1 := hide b1
      clear b1
      go_wp2
      go_ret
      exact ⟨ret_int (congrArg Int.ofNat (unhide G)).symm, unhide B1⟩
    · clear h
      have G := hide (gs_8 l t u r)
      go_enter Try.func43, Try.ntmps43
      go_wp2_with fail
      refine (avg16 _ _ _).mono ?_
      rintro e w1 ⟨rfl, b1⟩
      have B1 := hide b1
      clear b1
      go_wp2
      go_ret
      exact ⟨ret_int (congrArg Int.ofNat (unhide G)).symm, unhide B1⟩
    · clear h
      have G := hide (gs_9 l t u r)
      go_enter Try.func43, Try.ntmps43
      go_wp2_with fail
      refine (avg16 _ _ _).mono ?_
      rintro e w1 ⟨rfl, b1⟩
      have B1 := hide b1
      clear b1
      go_wp2
      go_ret
      exact ⟨ret_int (congrArg Int.ofNat (unhide G)).symm, unhide B1⟩
    · clear h
      have G := hide (gs_10 l t u r)
      go_enter Try.func43, Try.ntmps43
      go_wp2_with fail
      refine (avg16 _ _ _).mono ?_
      rintro e w1 ⟨rfl, b1⟩
      have B1 := hide b1
      clear b1
      go_wp2_with fail
      refine (avg16 _ _ _).mono ?_
      rintro e w2 ⟨rfl, b2⟩
      have B2 := hide ((unhide B1).trans (b2.mono (unhide B1).size))
      clear b2
      go_wp2_with fail
      refine (avg16 _ _ _).mono ?_
      rintro e w3 ⟨rfl, b3⟩
      have B3 := hide ((unhide B2).trans (b3.mono (unhide B2).size))
      clear b3
      go_wp2
      go_ret
      exact ⟨ret_int (congrArg Int.ofNat (unhide G)).symm, unhide B3⟩
    · clear h
      have G := hide (gs_11 l t u r)
      go_enter Try.func43, Try.ntmps43
      go_wp2_with fail
      refine (pick20 _ _ _ _).mono ?_
      rintro e w1 ⟨rfl, b1⟩
      have B1 := hide b1
      clear b1
      go_wp2
      go_ret
      exact ⟨ret_int (congrArg Int.ofNat (unhide G)).symm, unhide B1⟩
    · clear h
      have G := hide (gs_12 l t u r)
      go_enter Try.func43, Try.ntmps43
      go_wp2_with fail
      refine (full22 _ _ _ _).mono ?_
      rintro e w1 ⟨rfl, b1⟩
      have B1 := hide b1
      clear b1
      go_wp2
      go_ret
      exact ⟨ret_int (congrArg Int.ofNat (unhide G)).symm, unhide B1⟩
    · clear h
      have G := hide (gs_13 l t u r)
      go_enter Try.func43, Try.ntmps43
      go_wp2_with fail
      refine (avg16 _ _ _).mono ?_
      rintro e w1 ⟨rfl, b1⟩
      have B1 := hide b1
      clear b1
      go_wp2_with fail
      refine (half18 _ _ _).mono ?_
      rintro e w2 ⟨rfl, b2⟩
      have B2 := hide ((unhide B1).trans (b2.mono (unhide B1).size))
      clear b2
      go_wp2
      go_ret
      exact ⟨ret_int (congrArg Int.ofNat (unhide G)).symm, unhide B2⟩
set_option maxHeartbeats 1000000 in
theorem rguess9 (m : Int) (l t u r : Nat) (w : World) :
    Calls Try.prog 48 #[.int .i64 m, .int .u32 l, .int .u32 t, .int .u32 u, .int .u32 r] w fun e w' => e = .returned (.int .u32 (gsV m l t u r)) ∧ Below w.heap.size w w' := by
  by_cases h : m < 1 ∨ 13 < m
  · have G := hide (gs_no l t u r h)
    have n1 : ¬ m = 1 := by omega
    have n2 : ¬ m = 2 := by omega
    have n3 : ¬ m = 3 := by omega
    have n4 : ¬ m = 4 := by omega
    have n5 : ¬ m = 5 := by omega
    have n6 : ¬ m = 6 := by omega
    have n7 : ¬ m = 7 := by omega
    have n8 : ¬ m = 8 := by omega
    have n9 : ¬ m = 9 := by omega
    have n10 : ¬ m = 10 := by omega
    have n11 : ¬ m = 11 := by omega
    have n12 : ¬ m = 12 := by omega
    have n13 : ¬ m = 13 := by omega
    clear h
    go_enter Try.func48, Try.ntmps48
    go_wp2
    go_ret
    exact ⟨ret_int (congrArg Int.ofNat (unhide G)).symm, Below.refl _ _⟩
  · rcases gs_in (m := m) (by omega) (by omega) with rfl | rfl | rfl | rfl | rfl | rfl | rfl | rfl | rfl | rfl | rfl | rfl | rfl
    · clear h
      have G := hide (gs_1 l t u r)
      go_enter Try.func48, Try.ntmps48
      go_wp2
      go_ret
      exact ⟨ret_int (congrArg Int.ofNat (unhide G)).symm, Below.refl _ _⟩
    · clear h
      have G := hide (gs_2 l t u r)
      go_enter Try.func48, Try.ntmps48
      go_wp2
      go_ret
      exact ⟨ret_int (congrArg Int.ofNat (unhide G)).symm, Below.refl _ _⟩
    · clear h
      have G := hide (gs_3 l t u r)
      go_enter Try.func48, Try.ntmps48
      go_wp2
      go_ret
      exact ⟨ret_int (congrArg Int.ofNat (unhide G)).symm, Below.refl _ _⟩
    · clear h
      have G := hide (gs_4 l t u r)
      go_enter Try.func48, Try.ntmps48
      go_wp2
      go_ret
      exact ⟨ret_int (congrArg Int.ofNat (unhide G)).symm, Below.refl _ _⟩
    · clear h
      have G := hide (gs_5 l t u r)
      go_enter Try.func48, Try.ntmps48
      go_wp2_with fail
      refine (ravg17 _ _ _).mono ?_
      rintro e w1 ⟨rfl, b1⟩
      have B1 := hide b1
      clear b1
      go_wp2_with fail
      refine (ravg17 _ _ _).mono ?_
      rintro e w2 ⟨rfl, b2⟩
      have B2 := hide ((unhide B1).trans (b2.mono (unhide B1).size))
      clear b2
      go_wp2
      go_ret
      exact ⟨ret_int (congrArg Int.ofNat (unhide G)).symm, unhide B2⟩
    · clear h
      have G := hide (gs_6 l t u r)
      go_enter Try.func48, Try.ntmps48
      go_wp2_with fail
      refine (ravg17 _ _ _).mono ?_
      rintro e w1 ⟨rfl, b1⟩
      have B1 := hide b1
      clear b1
      go_wp2
      go_ret
      exact ⟨ret_int (congrArg Int.ofNat (unhide G)).symm, unhide B1⟩
    · clear h
      have G := hide (gs_7 l t u r)
      go_enter Try.func48, Try.ntmps48
      go_wp2_with fail
      refine (ravg17 _ _ _).mono ?_
      rintro e w1 ⟨rfl, b1⟩
      have B1 := hide b1
      clear b1
      go_wp2
      go_ret
      exact ⟨ret_int (congrArg Int.ofNat (unhide G)).symm, unhide B1⟩
    · clear h
      have G := hide (gs_8 l t u r)
      go_enter Try.func48, Try.ntmps48
      go_wp2_with fail
      refine (ravg17 _ _ _).mono ?_
      rintro e w1 ⟨rfl, b1⟩
      have B1 := hide b1
      clear b1
      go_wp2
      go_ret
      exact ⟨ret_int (congrArg Int.ofNat (unhide G)).symm, unhide B1⟩
    · clear h
      have G := hide (gs_9 l t u r)
      go_enter Try.func48, Try.ntmps48
      go_wp2_with fail
      refine (ravg17 _ _ _).mono ?_
      rintro e w1 ⟨rfl, b1⟩
      have B1 := hide b1
      clear b1
      go_wp2
      go_ret
      exact ⟨ret_int (congrArg Int.ofNat (unhide G)).symm, unhide B1⟩
    · clear h
      have G := hide (gs_10 l t u r)
      go_enter Try.func48, Try.ntmps48
      go_wp2_with fail
      refine (ravg17 _ _ _).mono ?_
      rintro e w1 ⟨rfl, b1⟩
      have B1 := hide b1
      clear b1
      go_wp2_with fail
      refine (ravg17 _ _ _).mono ?_
      rintro e w2 ⟨rfl, b2⟩
      have B2 := hide ((unhide B1).trans (b2.mono (unhide B1).size))
      clear b2
      go_wp2_with fail
      refine (ravg17 _ _ _).mono ?_
      rintro e w3 ⟨rfl, b3⟩
      have B3 := hide ((unhide B2).trans (b3.mono (unhide B2).size))
      clear b3
      go_wp2
      go_ret
      exact ⟨ret_int (congrArg Int.ofNat (unhide G)).symm, unhide B3⟩
    · clear h
      have G := hide (gs_11 l t u r)
      go_enter Try.func48, Try.ntmps48
      go_wp2_with fail
      refine (rpick21 _ _ _ _).mono ?_
      rintro e w1 ⟨rfl, rfl⟩
      go_wp2
      go_ret
      exact ⟨ret_int (congrArg Int.ofNat (unhide G)).symm, Below.refl _ _⟩
    · clear h
      have G := hide (gs_12 l t u r)
      go_enter Try.func48, Try.ntmps48
      go_wp2_with fail
      refine (rfull23 _ _ _ _).mono ?_
      rintro e w1 ⟨rfl, b1⟩
      have B1 := hide b1
      clear b1
      go_wp2
      go_ret
      exact ⟨ret_int (congrArg Int.ofNat (unhide G)).symm, unhide B1⟩
    · clear h
      have G := hide (gs_13 l t u r)
      go_enter Try.func48, Try.ntmps48
      go_wp2_with fail
      refine (ravg17 _ _ _).mono ?_
      rintro e w1 ⟨rfl, b1⟩
      have B1 := hide b1
      clear b1
      go_wp2_with fail
      refine (rhalf19 _ _ _).mono ?_
      rintro e w2 ⟨rfl, b2⟩
      have B2 := hide ((unhide B1).trans (b2.mono (unhide B1).size))
      clear b2
      go_wp2
      go_ret
      exact ⟨ret_int (congrArg Int.ofNat (unhide G)).symm, unhide B2⟩
end Go.Proofs.Ytnfokdcoelignaa.GGue
