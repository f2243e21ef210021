/- Contracts: token.Greedy, walked. Conditions: at most a hundred thousand pixels. -/
import Derived.Test.YtpkiilnkiidoiaaKGr6
namespace Go.Proofs.Ytpkiilnkiidoiaa.KGr7
set_option linter.unusedVariables false
open Go.ChangeShapes Go.WideShapes Go.ChangeAt Go.RowKit Go.Maps Go.Proofs.Ytpkiilnkiidoiaa.Core Go.Proofs.Ytpkiilnkiidoiaa.CNum Go.Proofs.Ytpkiilnkiidoiaa.KNum Go.Proofs.Ytpkiilnkiidoiaa.KMem Go.Proofs.Ytpkiilnkiidoiaa.KFit Go.Proofs.Ytpkiilnkiidoiaa.KGr0 Go.Proofs.Ytpkiilnkiidoiaa.KGr1 Go.Proofs.Ytpkiilnkiidoiaa.KGr2 Go.Proofs.Ytpkiilnkiidoiaa.KGr3 Go.Proofs.Ytpkiilnkiidoiaa.KGr6

set_option maxRecDepth 20000 in
set_option maxHeartbeats 8000000 in
theorem greedy16 {B : Nat} {w : World} {a : Option Addr} {n c : Nat} {px : List Nat} (m : Int) (hp : Lst B w a px) (hpn : n = px.length) (hs : ∀ x ∈ px, x < 4294967296) (hn : n ≤ 100000) (hnc : n ≤ c) (hB : B ≤ w.heap.size) (hm : 1 ≤ m) :
    Calls Try.prog 16 #[.slice a n c, .int .i64 m] w fun e w' => GAns w px e w' := by
  obtain ⟨tr, htr⟩ : ∃ tr : Int, (m ≤ 1024 ∧ tr = m) ∨ (1024 < m ∧ tr = 1024) := by
    by_cases h : m ≤ 1024
    · exact ⟨m, .inl ⟨h, rfl⟩⟩
    · exact ⟨1024, .inr ⟨by omega, rfl⟩⟩
  have hmm := @run_makeMap Try.prog
  have hmk := fun w => make_irow w n (by omega)
  have P0 := hide hp
  have HN := hide (And.intro hpn (And.intro hn (And.intro hnc hB)))
  have HS := hide hs
  have G0 := hide (gr_start w a n c)
  have HT := hide (show tr ≤ 1024 by omega)
  have i0 : (n : Int) ≤ 100000 := by omega
  have hm1 : ¬ m < 1 := by omega
  clear hp hpn hs hn hnc hB
  have e2 : ((w.alloc (.map #[] 0)).alloc (.cells (irow (fun _ => 0) n) 3)).heap.size = w.heap.size + 2 := by simp
  go_enter Try.func16, Try.ntmps16
  go_wp2
  generalize hw2 : ((w.alloc (.map #[] 0)).alloc (.cells (irow (fun _ => 0) n) 3)).alloc (.cells #[.slice a n c, .map (some w.heap.size), .slice (some ⟨w.heap.size + 1, 0, none⟩) n n] 65) = w2 at *
  clear hw2
  go_loopw [5, 7] (fun x y wr => ∃ (k k' : Nat) (v : Value) (ss : List Sp), x = v ∧ y = .int .i64 k ∧ k ≤ n ∧ (k' = k ∨ (k = n ∧ k' + 1 = n)) ∧ Sof w.heap.size (w.heap.size + 3) w wr (w.heap.size + 2) w.heap.size (w.heap.size + 1) n c a k' v ss ∧ fitV px 0 ss = true ∧ (∀ t ∈ ss, t.p + t.n ≤ (k : Int)) ∧ ss.length ≤ k) (fun _ y _ => n - (intOf y).toNat)
  case atStart => exact ⟨0, 0, _, [], rfl, rfl, by omega, .inl rfl, unhide G0, rfl, fun t ht => by simp at ht, by simp⟩
  case round =>
    obtain ⟨k, k', v, ss, hx, rfl, hk, hkk, sof, hfit, hall, hsl⟩ := hrel
    obtain ⟨av, cv, rfl, _⟩ := own_shape sof.own
    subst hx
    have SO := hide sof
    have HF := hide (And.intro hfit (And.intro hall hsl))
    by_cases hlt : k + 3 ≤ n
    · have hlt' : (k : Int) + 3 ≤ (n : Int) := by omega
      obtain rfl : k' = k := by omega
      have PW := hide (((unhide P0).mono (unhide HN).2.2.2).below sof.bel)
      obtain ⟨b, off, rfl, _, _⟩ := (unhide PW).pos (by have := (unhide HN).1; omega)
      have LO := hide (longest26 sof.gr (unhide PW) (unhide HN).1 (unhide HS) hlt (unhide HN).2.1 (unhide HN).2.2.1 tr (unhide HT))
      clear sof hfit hall hsl G0 hkk
      rcases htr with ⟨ht1, rfl⟩ | ⟨ht1, rfl⟩
      · skip
        have L3 := LO
        go_wp2_with fail
        refine (unhide LO).mono ?_
        rintro e w3 ⟨⟨L, D, rfl, hcop, hle⟩, B3⟩
        have S3 := hide ((unhide SO).keep B3)
        have S4 := hide ((unhide S3).keep (bel_a1 w3 (.cells #[.int .i64 k', .int .i64 L, .int .i64 D] 45)))
        have BX := hide (Box.made w3 45 #[.int .i64 k', .int .i64 L, .int .i64 D])
        have HC := hide (And.intro hcop (show k' + L ≤ n by have := (unhide HN).1; omega))
        clear B3 hcop hle L3
        by_cases h3 : 3 ≤ L
        · have h3' : (3 : Int) ≤ (L : Int) := by omega
          obtain ⟨N, hN⟩ : ∃ N, N = k' + L := ⟨_, rfl⟩
          have n1 : (k' : Int) + (L : Int) = (N : Int) := by omega
          have n2 : (N : Int) ≤ 100000 := by have := (unhide HC).2; omega
          have HNN := hide (show k' < N ∧ N ≤ n by have := (unhide HC).2; omega)
          have HNE := hide hN
          clear hN
          have HFT := hide (show fit1 px ⟨k', L, D⟩ = true from (unhide HC).1.resolve_left (by omega))
          have NW := hide (show ∀ j u, (sc ⟨k', L, D⟩)[j]? = some u → ((w3.alloc (.cells #[.int .i64 k', .int .i64 L, .int .i64 D] 45)).alloc (.cells #[.int .i64 k', .int .i64 L, .int .i64 D] 45)).cell? ((⟨w3.heap.size + 1, 0, none⟩ : Addr).add j) = some u by
            have h := sc_new (w3.alloc (.cells #[.int .i64 k', .int .i64 L, .int .i64 D] 45)) ⟨k', L, D⟩ 45
            rw [show (w3.alloc (.cells #[.int .i64 k', .int .i64 L, .int .i64 D] 45)).heap.size = w3.heap.size + 1 by simp] at h
            exact h)
          have NL := hide (show (unhide HF).2.2 = (unhide HF).2.2 from rfl)
          have VL := hide (show ∀ q, (Value.slice av ss.length cv).ownBlock = some q → q < w3.heap.size from fun q e => ((unhide S3).own.lt q e).2)
          have HSL := hide (show ss.length ≤ 100000 by have := (unhide HF).2.2; have := (unhide HN).2.1; omega)
          have HB3 := hide (show w.heap.size + 3 ≤ w3.heap.size + 2 by have := (unhide S3).gr.box.lt; omega)
          obtain ⟨i0', hi0, hz0, hz1, hz2⟩ := info_parts info45
          clear NL
          go_wp2_with (first | (at_builtin; refine wpList_append_own_at _ rfl (.tmp 32) (.tmp 34) 30 rfl (w.heap.size + 3) 45 i0' (.agg #[.int .i64 0, .int .i64 0, .int .i64 0]) 3 24 Try.underlying30 hi0 hz0 hz1 hz2 rfl (by decide) _ ss.length (scs ss) rfl ((unhide S4).own.alloc _) ⟨w3.heap.size + 1, 0, none⟩ 1 1 (sc ⟨k', L, D⟩) rfl rfl (unhide NW) (sc_one _) (by have := unhide HSL; unfold maxLen; omega) (by have := unhide HSL; omega) (by have := unhide HB3; simp; omega) ?_; intro v1 w5 own1 gr1 _ _; obtain ⟨a1, k1, rfl, _⟩ := own_shape own1; have S5 := hide ((unhide S4).app own1 gr1); have BX5 : Box w5 w3.heap.size 45 #[.int .i64 k', .int .i64 L, .int .i64 D] := (gr1.block w3.heap.size (by simp; omega) (fun e => by have := unhide VL _ e.symm; omega)).trans ((unhide BX).alloc _); have x1 : w5.cell? ⟨w3.heap.size, 1, none⟩ = some (.int .i64 L) := BX5.cell 1; have xl := BX5.lt; clear own1 gr1 BX5) | go_in)
          have SI := hide (unhide S5)
          have IF := hide (And.intro (fit_snoc (unhide HF).1 (unhide HF).2.1 (Nat.zero_le _) (Int.le_refl _) (unhide HFT)) (And.intro (show ∀ t ∈ ss ++ [(⟨k', L, D⟩ : Sp)], t.p + t.n ≤ (N : Int) from fun t ht => by
            rcases List.mem_append.1 ht with h | h
            · have := (unhide HF).2.1 t h; have := unhide HNE; omega
            · have := unhide HNE; simp at h; subst h; simp only; omega) (show (ss ++ [(⟨k', L, D⟩ : Sp)]).length ≤ N by rw [List.length_append]; have := (unhide HF).2.2; have := unhide HNE; simp; omega)))
          clear SO HF LO PW
          clear NW VL HSL HB3 S4 S5 S3 HC BX x1 xl HFT
          generalize wr = wo at *
          go_loopw [7] (fun y wr => ∃ i i' : Nat, y = .int .i64 i ∧ k' ≤ i ∧ i ≤ N ∧ (i' = i ∨ (i = n ∧ i' + 1 = n)) ∧ Sof w.heap.size (w.heap.size + 3) w wr (w.heap.size + 2) w.heap.size (w.heap.size + 1) n c (some ⟨b, off, none⟩) i' (.slice a1 (ss.length + 1) k1) (ss ++ [⟨k', L, D⟩])) (fun y _ => N - (intOf y).toNat)
          case atStart => exact ⟨k', k', rfl, Nat.le_refl _, by have := unhide HNN; omega, .inl rfl, unhide SI⟩
          case round =>
            obtain ⟨i, i', rfl, hi1, hi2, hii, sof⟩ := hrel
            have SO := hide sof
            by_cases hiN : i < N
            · have hiN' : (i : Int) < (N : Int) := by omega
              obtain rfl : i' = i := by have := unhide HNN; omega
              have PW := hide (((unhide P0).mono (unhide HN).2.2.2).below sof.bel)
              by_cases hlast : i' + 1 = n
              · have EN := hide (enter27_last sof.gr i' hlast (by have := (unhide HN).2.1; omega))
                have HLA := hide hlast
                clear hlast sof SI hii
                go_wp2_with fail
                refine (unhide EN).mono ?_
                rintro e w7 ⟨rfl, rfl⟩
                go_wp2
                go_roundw
                case rel => exact ⟨i' + 1, i', by go_num, by omega, by omega, .inr ⟨unhide HLA, unhide HLA⟩, unhide SO⟩
                case measure => simp [intOf]; omega
              · have EN := hide (enter27 sof.gr (unhide PW) (unhide HN).1 (unhide HS) (by have := unhide HNN; omega) (unhide HN).2.1)
                clear hlast sof SI hii
                go_wp2_with fail
                refine (unhide EN).mono ?_
                rintro e w7 ⟨rfl, G7, B7, T7⟩
                have S7 := hide ((unhide SO).enter G7 B7 T7)
                clear G7 B7 T7
                go_wp2
                go_roundw
                case rel => exact ⟨i' + 1, i' + 1, by go_num, by omega, by omega, .inl rfl, unhide S7⟩
                case measure => simp [intOf]; omega
            · have hiN' : ¬ (i : Int) < (N : Int) := by omega
              obtain rfl : N = i := by omega
              have HII := hide hii
              clear SI sof hii
              go_wp2
              go_roundw
              case rel => first
                | exact ⟨N, i', _, _, rfl, rfl, (unhide HNN).2, unhide HII, unhide SO, (unhide IF).1, (unhide IF).2.1, (unhide IF).2.2⟩
                | ((repeat apply Exists.intro); exact ⟨⟨N, i', _, _, rfl, rfl, (unhide HNN).2, unhide HII, unhide SO, (unhide IF).1, (unhide IF).2.1, (unhide IF).2.2⟩, rfl⟩)
              case measure => have := (unhide HNN).1; simp [intOf]; omega
        · have h3' : ¬ (3 : Int) ≤ (L : Int) := by omega
          obtain ⟨N, hN⟩ : ∃ N, N = k' + 1 := ⟨_, rfl⟩
          have n1 : (k' : Int) + 1 = (N : Int) := by omega
          have HNN := hide (show k' < N ∧ N ≤ n by omega)
          have HNE := hide hN
          clear hN
          go_wp2
          have SI := hide (unhide S4)
          have IF := hide (And.intro (unhide HF).1 (And.intro (show ∀ t ∈ ss, t.p + t.n ≤ (N : Int) from fun t ht => by have := (unhide HF).2.1 t ht; have := unhide HNE; omega) (show ss.length ≤ N by have := (unhide HF).2.2; have := unhide HNE; omega)))
          clear SO HF LO PW
          clear S4 S3 HC BX
          generalize wr = wo at *
          go_loopw [7] (fun y wr => ∃ i i' : Nat, y = .int .i64 i ∧ k' ≤ i ∧ i ≤ N ∧ (i' = i ∨ (i = n ∧ i' + 1 = n)) ∧ Sof w.heap.size (w.heap.size + 3) w wr (w.heap.size + 2) w.heap.size (w.heap.size + 1) n c (some ⟨b, off, none⟩) i' (.slice av ss.length cv) ss) (fun y _ => N - (intOf y).toNat)
          case atStart => exact ⟨k', k', rfl, Nat.le_refl _, by have := unhide HNN; omega, .inl rfl, unhide SI⟩
          case round =>
            obtain ⟨i, i', rfl, hi1, hi2, hii, sof⟩ := hrel
            have SO := hide sof
            by_cases hiN : i < N
            · have hiN' : (i : Int) < (N : Int) := by omega
              obtain rfl : i' = i := by have := unhide HNN; omega
              have PW := hide (((unhide P0).mono (unhide HN).2.2.2).below sof.bel)
              by_cases hlast : i' + 1 = n
              · have EN := hide (enter27_last sof.gr i' hlast (by have := (unhide HN).2.1; omega))
                have HLA := hide hlast
                clear hlast sof SI hii
                go_wp2_with fail
                refine (unhide EN).mono ?_
                rintro e w7 ⟨rfl, rfl⟩
                go_wp2
                go_roundw
                case rel => exact ⟨i' + 1, i', by go_num, by omega, by omega, .inr ⟨unhide HLA, unhide HLA⟩, unhide SO⟩
                case measure => simp [intOf]; omega
              · have EN := hide (enter27 sof.gr (unhide PW) (unhide HN).1 (unhide HS) (by have := unhide HNN; omega) (unhide HN).2.1)
                clear hlast sof SI hii
                go_wp2_with fail
                refine (unhide EN).mono ?_
                rintro e w7 ⟨rfl, G7, B7, T7⟩
                have S7 := hide ((unhide SO).enter G7 B7 T7)
                clear G7 B7 T7
                go_wp2
                go_roundw
                case rel => exact ⟨i' + 1, i' + 1, by go_num, by omega, by omega, .inl rfl, unhide S7⟩
                case measure => simp [intOf]; omega
            · have hiN' : ¬ (i : Int) < (N : Int) := by omega
              obtain rfl : N = i := by omega
              have HII := hide hii
              clear SI sof hii
              go_wp2
              go_roundw
              case rel => first
                | exact ⟨N, i', _, _, rfl, rfl, (unhide HNN).2, unhide HII, unhide SO, (unhide IF).1, (unhide IF).2.1, (unhide IF).2.2⟩
                | ((repeat apply Exists.intro); exact ⟨⟨N, i', _, _, rfl, rfl, (unhide HNN).2, unhide HII, unhide SO, (unhide IF).1, (unhide IF).2.1, (unhide IF).2.2⟩, rfl⟩)
              case measure => have := (unhide HNN).1; simp [intOf]; omega
      · skip
        have L3 := LO
        go_wp2_with fail
        refine (unhide LO).mono ?_
        rintro e w3 ⟨⟨L, D, rfl, hcop, hle⟩, B3⟩
        have S3 := hide ((unhide SO).keep B3)
        have S4 := hide ((unhide S3).keep (bel_a1 w3 (.cells #[.int .i64 k', .int .i64 L, .int .i64 D] 45)))
        have BX := hide (Box.made w3 45 #[.int .i64 k', .int .i64 L, .int .i64 D])
        have HC := hide (And.intro hcop (show k' + L ≤ n by have := (unhide HN).1; omega))
        clear B3 hcop hle L3
        by_cases h3 : 3 ≤ L
        · have h3' : (3 : Int) ≤ (L : Int) := by omega
          obtain ⟨N, hN⟩ : ∃ N, N = k' + L := ⟨_, rfl⟩
          have n1 : (k' : Int) + (L : Int) = (N : Int) := by omega
          have n2 : (N : Int) ≤ 100000 := by have := (unhide HC).2; omega
          have HNN := hide (show k' < N ∧ N ≤ n by have := (unhide HC).2; omega)
          have HNE := hide hN
          clear hN
          have HFT := hide (show fit1 px ⟨k', L, D⟩ = true from (unhide HC).1.resolve_left (by omega))
          have NW := hide (show ∀ j u, (sc ⟨k', L, D⟩)[j]? = some u → ((w3.alloc (.cells #[.int .i64 k', .int .i64 L, .int .i64 D] 45)).alloc (.cells #[.int .i64 k', .int .i64 L, .int .i64 D] 45)).cell? ((⟨w3.heap.size + 1, 0, none⟩ : Addr).add j) = some u by
            have h := sc_new (w3.alloc (.cells #[.int .i64 k', .int .i64 L, .int .i64 D] 45)) ⟨k', L, D⟩ 45
            rw [show (w3.alloc (.cells #[.int .i64 k', .int .i64 L, .int .i64 D] 45)).heap.size = w3.heap.size + 1 by simp] at h
            exact h)
          have NL := hide (show (unhide HF).2.2 = (unhide HF).2.2 from rfl)
          have VL := hide (show ∀ q, (Value.slice av ss.length cv).ownBlock = some q → q < w3.heap.size from fun q e => ((unhide S3).own.lt q e).2)
          have HSL := hide (show ss.length ≤ 100000 by have := (unhide HF).2.2; have := (unhide HN).2.1; omega)
          have HB3 := hide (show w.heap.size + 3 ≤ w3.heap.size + 2 by have := (unhide S3).gr.box.lt; omega)
          obtain ⟨i0', hi0, hz0, hz1, hz2⟩ := info_parts info45
          clear NL
          go_wp2_with (first | (at_builtin; refine wpList_append_own_at _ rfl (.tmp 32) (.tmp 34) 30 rfl (w.heap.size + 3) 45 i0' (.agg #[.int .i64 0, .int .i64 0, .int .i64 0]) 3 24 Try.underlying30 hi0 hz0 hz1 hz2 rfl (by decide) _ ss.length (scs ss) rfl ((unhide S4).own.alloc _) ⟨w3.heap.size + 1, 0, none⟩ 1 1 (sc ⟨k', L, D⟩) rfl rfl (unhide NW) (sc_one _) (by have := unhide HSL; unfold maxLen; omega) (by have := unhide HSL; omega) (by have := unhide HB3; simp; omega) ?_; intro v1 w5 own1 gr1 _ _; obtain ⟨a1, k1, rfl, _⟩ := own_shape own1; have S5 := hide ((unhide S4).app own1 gr1); have BX5 : Box w5 w3.heap.size 45 #[.int .i64 k', .int .i64 L, .int .i64 D] := (gr1.block w3.heap.size (by simp; omega) (fun e => by have := unhide VL _ e.symm; omega)).trans ((unhide BX).alloc _); have x1 : w5.cell? ⟨w3.heap.size, 1, none⟩ = some (.int .i64 L) := BX5.cell 1; have xl := BX5.lt; clear own1 gr1 BX5) | go_in)
          have SI := hide (unhide S5)
          have IF := hide (And.intro (fit_snoc (unhide HF).1 (unhide HF).2.1 (Nat.zero_le _) (Int.le_refl _) (unhide HFT)) (And.intro (show ∀ t ∈ ss ++ [(⟨k', L, D⟩ : Sp)], t.p + t.n ≤ (N : Int) from fun t ht => by
            rcases List.mem_append.1 ht with h | h
            · have := (unhide HF).2.1 t h; have := unhide HNE; omega
            · have := unhide HNE; simp at h; subst h; simp only; omega) (show (ss ++ [(⟨k', L, D⟩ : Sp)]).length ≤ N by rw [List.length_append]; have := (unhide HF).2.2; have := unhide HNE; simp; omega)))
          clear SO HF LO PW
          clear NW VL HSL HB3 S4 S5 S3 HC BX x1 xl HFT
          generalize wr = wo at *
          go_loopw [7] (fun y wr => ∃ i i' : Nat, y = .int .i64 i ∧ k' ≤ i ∧ i ≤ N ∧ (i' = i ∨ (i = n ∧ i' + 1 = n)) ∧ Sof w.heap.size (w.heap.size + 3) w wr (w.heap.size + 2) w.heap.size (w.heap.size + 1) n c (some ⟨b, off, none⟩) i' (.slice a1 (ss.length + 1) k1) (ss ++ [⟨k', L, D⟩])) (fun y _ => N - (intOf y).toNat)
          case atStart => exact ⟨k', k', rfl, Nat.le_refl _, by have := unhide HNN; omega, .inl rfl, unhide SI⟩
          case round =>
            obtain ⟨i, i', rfl, hi1, hi2, hii, sof⟩ := hrel
            have SO := hide sof
            by_cases hiN : i < N
            · have hiN' : (i : Int) < (N : Int) := by omega
              obtain rfl : i' = i := by have := unhide HNN; omega
              have PW := hide (((unhide P0).mono (unhide HN).2.2.2).below sof.bel)
              by_cases hlast : i' + 1 = n
              · have EN := hide (enter27_last sof.gr i' hlast (by have := (unhide HN).2.1; omega))
                have HLA := hide hlast
                clear hlast sof SI hii
                go_wp2_with fail
                refine (unhide EN).mono ?_
                rintro e w7 ⟨rfl, rfl⟩
                go_wp2
                go_roundw
                case rel => exact ⟨i' + 1, i', by go_num, by omega, by omega, .inr ⟨unhide HLA, unhide HLA⟩, unhide SO⟩
                case measure => simp [intOf]; omega
              · have EN := hide (enter27 sof.gr (unhide PW) (unhide HN).1 (unhide HS) (by have := unhide HNN; omega) (unhide HN).2.1)
                clear hlast sof SI hii
                go_wp2_with fail
                refine (unhide EN).mono ?_
                rintro e w7 ⟨rfl, G7, B7, T7⟩
                have S7 := hide ((unhide SO).enter G7 B7 T7)
                clear G7 B7 T7
                go_wp2
                go_roundw
                case rel => exact ⟨i' + 1, i' + 1, by go_num, by omega, by omega, .inl rfl, unhide S7⟩
                case measure => simp [intOf]; omega
            · have hiN' : ¬ (i : Int) < (N : Int) := by omega
              obtain rfl : N = i := by omega
              have HII := hide hii
              clear SI sof hii
              go_wp2
              go_roundw
              case rel => first
                | exact ⟨N, i', _, _, rfl, rfl, (unhide HNN).2, unhide HII, unhide SO, (unhide IF).1, (unhide IF).2.1, (unhide IF).2.2⟩
                | ((repeat apply Exists.intro); exact ⟨⟨N, i', _, _, rfl, rfl, (unhide HNN).2, unhide HII, unhide SO, (unhide IF).1, (unhide IF).2.1, (unhide IF).2.2⟩, rfl⟩)
              case measure => have := (unhide HNN).1; simp [intOf]; omega
        · have h3' : ¬ (3 : Int) ≤ (L : Int) := by omega
          obtain ⟨N, hN⟩ : ∃ N, N = k' + 1 := ⟨_, rfl⟩
          have n1 : (k' : Int) + 1 = (N : Int) := by omega
          have HNN := hide (show k' < N ∧ N ≤ n by omega)
          have HNE := hide hN
          clear hN
          go_wp2
          have SI := hide (unhide S4)
          have IF := hide (And.intro (unhide HF).1 (And.intro (show ∀ t ∈ ss, t.p + t.n ≤ (N : Int) from fun t ht => by have := (unhide HF).2.1 t ht; have := unhide HNE; omega) (show ss.length ≤ N by have := (unhide HF).2.2; have := unhide HNE; omega)))
          clear SO HF LO PW
          clear S4 S3 HC BX
          generalize wr = wo at *
          go_loopw [7] (fun y wr => ∃ i i' : Nat, y = .int .i64 i ∧ k' ≤ i ∧ i ≤ N ∧ (i' = i ∨ (i = n ∧ i' + 1 = n)) ∧ Sof w.heap.size (w.heap.size + 3) w wr (w.heap.size + 2) w.heap.size (w.heap.size + 1) n c (some ⟨b, off, none⟩) i' (.slice av ss.length cv) ss) (fun y _ => N - (intOf y).toNat)
          case atStart => exact ⟨k', k', rfl, Nat.le_refl _, by have := unhide HNN; omega, .inl rfl, unhide SI⟩
          case round =>
            obtain ⟨i, i', rfl, hi1, hi2, hii, sof⟩ := hrel
            have SO := hide sof
            by_cases hiN : i < N
            · have hiN' : (i : Int) < (N : Int) := by omega
              obtain rfl : i' = i := by have := unhide HNN; omega
              have PW := hide (((unhide P0).mono (unhide HN).2.2.2).below sof.bel)
              by_cases hlast : i' + 1 = n
              · have EN := hide (enter27_last sof.gr i' hlast (by have := (unhide HN).2.1; omega))
                have HLA := hide hlast
                clear hlast sof SI hii
                go_wp2_with fail
                refine (unhide EN).mono ?_
                rintro e w7 ⟨rfl, rfl⟩
                go_wp2
                go_roundw
                case rel => exact ⟨i' + 1, i', by go_num, by omega, by omega, .inr ⟨unhide HLA, unhide HLA⟩, unhide SO⟩
                case measure => simp [intOf]; omega
              · have EN := hide (enter27 sof.gr (unhide PW) (unhide HN).1 (unhide HS) (by have := unhide HNN; omega) (unhide HN).2.1)
                clear hlast sof SI hii
                go_wp2_with fail
                refine (unhide EN).mono ?_
                rintro e w7 ⟨rfl, G7, B7, T7⟩
                have S7 := hide ((unhide SO).enter G7 B7 T7)
                clear G7 B7 T7
                go_wp2
                go_roundw
                case rel => exact ⟨i' + 1, i' + 1, by go_num, by omega, by omega, .inl rfl, unhide S7⟩
                case measure => simp [intOf]; omega
            · have hiN' : ¬ (i : Int) < (N : Int) := by omega
              obtain rfl : N = i := by omega
              have HII := hide hii
              clear SI sof hii
              go_wp2
              go_roundw
              case rel => first
                | exact ⟨N, i', _, _, rfl, rfl, (unhide HNN).2, unhide HII, unhide SO, (unhide IF).1, (unhide IF).2.1, (unhide IF).2.2⟩
                | ((repeat apply Exists.intro); exact ⟨⟨N, i', _, _, rfl, rfl, (unhide HNN).2, unhide HII, unhide SO, (unhide IF).1, (unhide IF).2.1, (unhide IF).2.2⟩, rfl⟩)
              case measure => have := (unhide HNN).1; simp [intOf]; omega
    · have hlt' : ¬ (k : Int) + 3 ≤ (n : Int) := by omega
      have SP := hide sof
      clear sof
      go_wp2
      go_ret
      obtain ⟨h1, _, h3⟩ := unhide HF
      obtain ⟨a3, c3, ev, _, sp⟩ := own_sps (unhide SP).own rfl
      cases ev
      exact ⟨⟨ss, _, _, rfl, sp, h1, by have := (unhide HN).1; omega⟩, (unhide SP).bel⟩
end Go.Proofs.Ytpkiilnkiidoiaa.KGr7
