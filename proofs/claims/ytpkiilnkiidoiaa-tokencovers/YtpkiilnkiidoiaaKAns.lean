/- Contract: what a program that does nothing does not answer. No conditions. -/
import Derived.Test.YtpkiilnkiidoiaaKCv2
namespace Go.Proofs.Ytpkiilnkiidoiaa.KAns
set_option linter.unusedVariables false
open Go.ChangeShapes Go.WideShapes Go.ChangeAt Go.RowKit Go.Sort Go.Proofs.Ytpkiilnkiidoiaa.Core Go.Proofs.Ytpkiilnkiidoiaa.CNum Go.Proofs.Ytpkiilnkiidoiaa.KNum Go.Proofs.Ytpkiilnkiidoiaa.KMem Go.Proofs.Ytpkiilnkiidoiaa.KCch Go.Proofs.Ytpkiilnkiidoiaa.KExp Go.Proofs.Ytpkiilnkiidoiaa.KCv2

theorem fit_a : fitV [7, 7, 7] 0 [⟨1, 2, 1⟩] = true := by decide
theorem cov_a : covP 0 [7, 7, 7] 0 [⟨1, 2, 1⟩] = [⟨1, 0, 0, 0, 7⟩, ⟨2, 2, 1, 0, 0⟩] := by rfl
theorem all_a : allP 0 3 [⟨1, 0, 0, 0, 7⟩, ⟨2, 2, 1, 0, 0⟩] = some [7, 7, 7] := by rfl
theorem two_a (w : World) : Lst ((w.alloc (.cells #[.int .u32 7, .int .u32 7, .int .u32 7] 35)).alloc (.cells #[.int .i64 1, .int .i64 2, .int .i64 1] 45)).heap.size ((w.alloc (.cells #[.int .u32 7, .int .u32 7, .int .u32 7] 35)).alloc (.cells #[.int .i64 1, .int .i64 2, .int .i64 1] 45)) (some ⟨w.heap.size, 0, none⟩) [7, 7, 7] ∧
    Sps ((w.alloc (.cells #[.int .u32 7, .int .u32 7, .int .u32 7] 35)).alloc (.cells #[.int .i64 1, .int .i64 2, .int .i64 1] 45)).heap.size ((w.alloc (.cells #[.int .u32 7, .int .u32 7, .int .u32 7] 35)).alloc (.cells #[.int .i64 1, .int .i64 2, .int .i64 1] 45)) (some ⟨w.heap.size + 1, 0, none⟩) [⟨1, 2, 1⟩] := by
  have b1 := (Box.made w 35 #[.int .u32 7, .int .u32 7, .int .u32 7]).alloc (.cells #[.int .i64 1, .int .i64 2, .int .i64 1] 45)
  have b2 := Box.made (w.alloc (.cells #[.int .u32 7, .int .u32 7, .int .u32 7] 35)) 45 #[.int .i64 1, .int .i64 2, .int .i64 1]
  rw [show (w.alloc (.cells #[.int .u32 7, .int .u32 7, .int .u32 7] 35)).heap.size = w.heap.size + 1 by simp] at b2
  refine ⟨fun i x hx => ⟨_, _, rfl, b1.lt, ?_⟩, fun i s hs => ⟨_, _, rfl, b2.lt, ?_⟩⟩
  · rw [b1.cell]
    match i, hx with
    | 0, hx => cases hx; rfl
    | 1, hx => cases hx; rfl
    | 2, hx => cases hx; rfl
  · rw [b2.cell, b2.cell, b2.cell]
    match i, hs with
    | 0, hs => cases hs; exact ⟨rfl, rfl, rfl⟩
set_option maxHeartbeats 2000000 in
theorem answers8 (w : World) : Calls Try.prog 8 #[] w fun e w' => e = .returned (.bool true) ∧ Below w.heap.size w w' := by
  have C := hide (cover13 (c := 3) (c' := 1) 0 (two_a w).1 (two_a w).2 (n := 3) rfl (by omega) (by omega) (k := 1) rfl (by omega) (Nat.le_refl _) (by omega) fit_a)
  rw [cov_a] at C
  go_enter Try.func8, Try.ntmps8
  go_wp2_with fail
  refine (unhide C).mono ?_
  rintro e w3 ⟨⟨a, c, he, tk⟩, B3⟩
  have he' : e = .returned (.tuple #[.slice a 2 c, .int .i64 0]) := he
  subst he'
  clear he
  have TK := hide tk
  have B4 := hide (((bel_a1 w (.cells #[.int .u32 7, .int .u32 7, .int .u32 7] 35)).alloc (by simp) (.cells #[.int .i64 1, .int .i64 2, .int .i64 1] 45)).trans (B3.mono (by simp; omega)))
  clear tk B3 C
  have X := hide (expand9 (c := c) 3 0 (unhide TK) (k := 2) rfl (by omega) (by omega) (by omega) (Nat.le_refl _))
  rw [all_a] at X
  go_wp2_with fail
  refine (unhide X).mono ?_
  rintro e w5 ⟨⟨a5, c5, he, _, _⟩, B5⟩
  have he' : e = .returned (.tuple #[.slice a5 3 c5, .int .i64 0]) := he
  subst he'
  clear he
  obtain ⟨b1, off, rfl, hb, q0, _⟩ := ((unhide TK).below B5) 1 _ rfl
  have B6 := hide ((unhide B4).trans (B5.mono (unhide B4).size))
  have q1 : w5.cell? ⟨b1, off + 5, none⟩ = some (.int .i64 2) := q0
  clear q0 B5 X
  go_wp2
  go_ret
  exact ⟨rfl, unhide B6⟩
end Go.Proofs.Ytpkiilnkiidoiaa.KAns
