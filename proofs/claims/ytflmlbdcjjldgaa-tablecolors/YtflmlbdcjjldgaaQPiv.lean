/- Contracts: slices.order2Ordered, medianOrdered, medianAdjacentOrdered, choosePivotOrdered of uint32. Conditions: the places lie in the row; the part is of more than 12 and at most 1000000 numbers. -/
import Derived.Test.YtflmlbdcjjldgaaQLes
namespace Go.Proofs.Ytflmlbdcjjldgaa.QPiv
set_option linter.unusedVariables false
open Go.ChangeShapes Go.WideShapes Go.ChangeAt Go.RowKit Go.Sort Go.Proofs.Ytflmlbdcjjldgaa.Core Go.Proofs.Ytflmlbdcjjldgaa.QNum Go.Proofs.Ytflmlbdcjjldgaa.QLes

/-- A row that is only read. -/
def Rd (w : World) (g o n : Nat) (G : Nat → Nat) : Prop := ∀ t, t < n → w.cell? ⟨g, o + t, none⟩ = some (.int .u32 (G t : Nat))
theorem Rd.keep {w w' : World} {g o n sb : Nat} {G : Nat → Nat} (h : Rd w g o n G) (u : Upd (fun k => k = sb) w w') (ne : g ≠ sb) : Rd w' g o n G := fun t ht =>
  (u.cell (p := ⟨g, o + t, none⟩) (lt_of_cell (h t ht)) ne).trans (h t ht)
/-- A counter in a block of its own. -/
def Ct (w : World) (sb s : Nat) : Prop := Box w sb 3 #[.int .i64 s]
theorem Ct.set {w : World} {sb s : Nat} (h : Ct w sb s) (s' : Nat) : Ct (w.setCell ⟨sb, 0, none⟩ (.int .i64 s')) sb s' := Box.set h 0 _
theorem upd_set (w : World) (sb : Nat) (v : Value) : Upd (fun k => k = sb) w (w.setCell ⟨sb, 0, none⟩ v) := Upd.setCell (S := fun k => k = sb) (Upd.refl _ w) (p := ⟨sb, 0, none⟩) rfl v

set_option maxHeartbeats 800000 in
theorem ord66 {g o n a b sb s : Nat} (c : Nat) {G : Nat → Nat} {w : World} (hc : Rd w g o n G) (C : Ct w sb s) (ha : a < n) (hb : b < n) (hn : n ≤ 1000000) (hs : s ≤ 1000) :
    Calls Try.prog 66 #[.slice (some ⟨g, o, none⟩) n c, .int .i64 a, .int .i64 b, .pointer (some ⟨sb, 0, none⟩)] w fun e w' =>
      ∃ x y s' : Nat, e = .returned (.tuple #[.int .i64 x, .int .i64 y]) ∧ ((x = a ∧ y = b) ∨ (x = b ∧ y = a)) ∧ s' ≤ s + 1 ∧ Ct w' sb s' ∧ Upd (fun k => k = sb) w w' := by
  have hcw : ∀ t, t < n → w.cell? ⟨g, o + t, none⟩ = some (.int .u32 (G t : Nat)) := hc
  have c0 : w.cell? ⟨sb, 0, none⟩ = some (.int .i64 s) := (Box.cell C 0).trans rfl
  have f0 : w.frozen? ⟨sb, 0, none⟩ = false := Box.free C 0
  have CC := hide C
  clear C hc
  go_enter Try.func66, Try.ntmps66
  go_wp2_with fail
  go_quiet (first | (go_at_call 55; refine Calls.quiet_of_same (less55 _ _ _)))
  have c1 : (w.drewN nq).cell? ⟨sb, 0, none⟩ = some (.int .i64 s) := c0
  have f1 : (w.drewN nq).frozen? ⟨sb, 0, none⟩ = false := f0
  have CD := hide (show Ct (w.drewN nq) sb s from unhide CC)
  have U := hide (show Upd (fun k => k = sb) w (w.drewN nq) from (Upd.refl _ w).drewN nq)
  clear c0 f0 hcw CC
  generalize w.drewN nq = wd at *
  go_wp2
  · go_ret2
    exact ⟨b, a, s + 1, rfl, .inr ⟨rfl, rfl⟩, Nat.le_refl _, (unhide CD).set (s + 1), (unhide U).trans (upd_set _ _ _)⟩
  · go_ret2
    exact ⟨a, b, s, rfl, .inl ⟨rfl, rfl⟩, by omega, unhide CD, unhide U⟩

set_option maxHeartbeats 800000 in
theorem med64 {g o n a b d lo hi sb s : Nat} (c : Nat) {G : Nat → Nat} {w : World} (hc : Rd w g o n G) (C : Ct w sb s) (ne : g ≠ sb) (ha : lo ≤ a ∧ a < hi) (hb : lo ≤ b ∧ b < hi) (hd : lo ≤ d ∧ d < hi) (hh : hi ≤ n) (hn : n ≤ 1000000) (hs : s ≤ 500) :
    Calls Try.prog 64 #[.slice (some ⟨g, o, none⟩) n c, .int .i64 a, .int .i64 b, .int .i64 d, .pointer (some ⟨sb, 0, none⟩)] w fun e w' =>
      ∃ x s' : Nat, e = .returned (.int .i64 x) ∧ (lo ≤ x ∧ x < hi) ∧ s' ≤ s + 3 ∧ Ct w' sb s' ∧ Upd (fun k => k = sb) w w' := by
  have HC := hide hc
  have K1 := hide (ord66 (a := a) (b := b) c hc C (by omega) (by omega) hn (by omega))
  clear C hc
  go_enter Try.func64, Try.ntmps64
  go_wp2_with fail
  refine (unhide K1).mono ?_
  rintro e w1 ⟨x1, y1, s1, rfl, h1, l1, C1, U1⟩
  have b1 : (lo ≤ x1 ∧ x1 < hi) ∧ (lo ≤ y1 ∧ y1 < hi) := by omega
  have HC1 := hide ((unhide HC).keep U1 ne)
  have K2 := hide (ord66 (a := y1) (b := d) c (unhide HC1) C1 (by omega) (by omega) hn (by omega))
  have V1 := hide U1
  clear h1 C1 U1 K1
  go_wp2_with fail
  refine (unhide K2).mono ?_
  rintro e w2 ⟨x2, y2, s2, rfl, h2, l2, C2, U2⟩
  have b2 : (lo ≤ x2 ∧ x2 < hi) ∧ (lo ≤ y2 ∧ y2 < hi) := by omega
  have HC2 := hide ((unhide HC1).keep U2 ne)
  have K3 := hide (ord66 (a := x1) (b := x2) c (unhide HC2) C2 (by omega) (by omega) hn (by omega))
  have V2 := hide ((unhide V1).trans U2)
  clear h2 C2 U2 K2 V1
  go_wp2_with fail
  refine (unhide K3).mono ?_
  rintro e w3 ⟨x3, y3, s3, rfl, h3, l3, C3, U3⟩
  have b3 : (lo ≤ x3 ∧ x3 < hi) ∧ (lo ≤ y3 ∧ y3 < hi) := by omega
  have V3 := hide ((unhide V2).trans U3)
  have C4 := hide C3
  clear h3 C3 U3 K3 V2
  go_wp2
  go_ret
  exact ⟨y3, s3, rfl, b3.2, by omega, unhide C4, unhide V3⟩

set_option maxHeartbeats 400000 in
theorem adj63 {g o n a lo hi sb s : Nat} (c : Nat) {G : Nat → Nat} {w : World} (hc : Rd w g o n G) (C : Ct w sb s) (ne : g ≠ sb) (ha : lo + 1 ≤ a ∧ a + 1 < hi) (hh : hi ≤ n) (hn : n ≤ 1000000) (hs : s ≤ 500) :
    Calls Try.prog 63 #[.slice (some ⟨g, o, none⟩) n c, .int .i64 a, .pointer (some ⟨sb, 0, none⟩)] w fun e w' =>
      ∃ x s' : Nat, e = .returned (.int .i64 x) ∧ (lo ≤ x ∧ x < hi) ∧ s' ≤ s + 3 ∧ Ct w' sb s' ∧ Upd (fun k => k = sb) w w' := by
  have K := med64 (a := a - 1) (b := a) (d := a + 1) (lo := lo) (hi := hi) c hc C ne (by omega) (by omega) (by omega) hh hn hs
  rw [show ((a - 1 : Nat) : Int) = (a : Int) - 1 by omega, show ((a + 1 : Nat) : Int) = (a : Int) + 1 by omega] at K
  have K1 := hide K
  clear K hc C
  go_enter Try.func63, Try.ntmps63
  go_wp2_with fail
  refine (unhide K1).mono ?_
  rintro e w1 ⟨x1, s1, rfl, h1, l1, C1, U1⟩
  have CC := hide C1
  have UU := hide U1
  clear C1 U1
  go_wp2
  go_ret
  exact ⟨x1, s1, rfl, h1, l1, unhide CC, unhide UU⟩
theorem ct_new (w : World) : Ct (w.alloc (.cells #[.int .i64 0] 3)) w.heap.size 0 := Box.made w 3 _
theorem rd_new {w : World} {g o n : Nat} {G : Nat → Nat} (h : Rd w g o n G) (ob : Obj) : Rd (w.alloc ob) g o n G := fun t ht =>
  (World.cell?_of_block (w := w) (a := ⟨g, o + t, none⟩) (Below.heap_alloc _ _ _ (lt_of_cell (h t ht)))).trans (h t ht)
theorem bel_new {w w' : World} {ob : Obj} (u : Upd (fun k => k = w.heap.size) (w.alloc ob) w') : Below w.heap.size w w' :=
  ((Below.refl _ w).alloc (Nat.le_refl _) ob).trans (u.below w.heap.size (by simp) (fun k e => by omega))
set_option maxHeartbeats 3200000 in
theorem piv52 {g o n a b : Nat} (c : Nat) {G : Nat → Nat} {w : World} (hc : Rd w g o n G) (hg : g < w.heap.size) (hab : a + 12 < b) (hb : b ≤ n) (hn : n ≤ 1000000) :
    Calls Try.prog 52 #[.slice (some ⟨g, o, none⟩) n c, .int .i64 a, .int .i64 b] w fun e w' =>
      ∃ x h : Nat, e = .returned (.tuple #[.int .i64 x, .int .i64 h]) ∧ (a ≤ x ∧ x < b) ∧ h ≤ 2 ∧ Below w.heap.size w w' := by
  obtain ⟨l, hl⟩ : ∃ l : Nat, b = a + l := ⟨b - a, by omega⟩
  have hl' : (b : Int) - (a : Int) = (l : Int) := by omega
  have l8 : (8 : Int) ≤ (l : Int) := by omega
  obtain ⟨q, hq⟩ : ∃ q : Nat, q = l / 4 := ⟨_, rfl⟩
  have q1 : 3 ≤ q ∧ 4 * q ≤ l := by omega
  have hq1 : (l : Int).tdiv 4 = (q : Int) := by rw [hq]; rfl
  have hq2 : (l : Int) / 4 = (q : Int) := by rw [hq]; rfl
  have ne : g ≠ w.heap.size := by omega
  have RA := hide (rd_new (w := w) (ob := .cells #[.int .i64 0] 3) hc)
  have HL := hide hl
  have HQ := hide hq
  clear hl hq hc
  obtain ⟨i, hi⟩ : ∃ i : Nat, (a : Int) + (q : Int) = (i : Int) := ⟨a + q, by omega⟩
  obtain ⟨j, hj⟩ : ∃ j : Nat, (a : Int) + (q : Int) * 2 = (j : Int) := ⟨a + q * 2, by omega⟩
  obtain ⟨k, hk⟩ : ∃ k : Nat, (a : Int) + (q : Int) * 3 = (k : Int) := ⟨a + q * 3, by omega⟩
  have BI := hide (show (a + 1 ≤ i ∧ i + 1 < b) ∧ (a + 1 ≤ j ∧ j + 1 < b) ∧ (a + 1 ≤ k ∧ k + 1 < b) by have := unhide HL; omega)
  by_cases h50 : 50 ≤ l
  · have h50' : (50 : Int) ≤ (l : Int) := by omega
    have K1 := hide (adj63 (a := i) (lo := a) (hi := b) c (unhide RA) (ct_new w) ne (unhide BI).1 hb hn (by omega))
    go_enter Try.func52, Try.ntmps52
    go_wp2_with fail
    refine (unhide K1).mono ?_
    rintro e w1 ⟨x1, s1, rfl, h1, l1, C1, U1⟩
    have R1 := hide ((unhide RA).keep U1 ne)
    have K2 := hide (adj63 (a := j) (lo := a) (hi := b) c (unhide R1) C1 ne (unhide BI).2.1 hb hn (by omega))
    have V1 := hide U1
    clear C1 U1 K1
    go_wp2_with fail
    refine (unhide K2).mono ?_
    rintro e w2 ⟨x2, s2, rfl, h2, l2, C2, U2⟩
    have R2 := hide ((unhide R1).keep U2 ne)
    have K3 := hide (adj63 (a := k) (lo := a) (hi := b) c (unhide R2) C2 ne (unhide BI).2.2 hb hn (by omega))
    have V2 := hide ((unhide V1).trans U2)
    clear C2 U2 K2 V1
    go_wp2_with fail
    refine (unhide K3).mono ?_
    rintro e w3 ⟨x3, s3, rfl, h3, l3, C3, U3⟩
    have R3 := hide ((unhide R2).keep U3 ne)
    have K4 := hide (med64 (a := x1) (b := x2) (d := x3) (lo := a) (hi := b) c (unhide R3) C3 ne h1 h2 h3 hb hn (by omega))
    have V3 := hide ((unhide V2).trans U3)
    clear C3 U3 K3 V2
    go_wp2_with fail
    refine (unhide K4).mono ?_
    rintro e w4 ⟨x4, s4, rfl, h4, l4, C4, U4⟩
    have c4 : w4.cell? ⟨w.heap.size, 0, none⟩ = some (.int .i64 s4) := (Box.cell C4 0).trans rfl
    have V4 := hide (bel_new ((unhide V3).trans U4))
    clear C4 U4 K4 V3
    go_wp2
    · go_ret2
      exact ⟨x4, 1, rfl, h4, by omega, unhide V4⟩
    · go_ret2
      exact ⟨x4, 2, rfl, h4, by omega, unhide V4⟩
    · go_ret2
      exact ⟨x4, 0, rfl, h4, by omega, unhide V4⟩
  · have h50' : ¬ (50 : Int) ≤ (l : Int) := by omega
    have K4 := hide (med64 (a := i) (b := j) (d := k) (lo := a) (hi := b) c (unhide RA) (ct_new w) ne (by have := unhide BI; omega) (by have := unhide BI; omega) (by have := unhide BI; omega) hb hn (by omega))
    go_enter Try.func52, Try.ntmps52
    go_wp2_with fail
    refine (unhide K4).mono ?_
    rintro e w4 ⟨x4, s4, rfl, h4, l4, C4, U4⟩
    have c4 : w4.cell? ⟨w.heap.size, 0, none⟩ = some (.int .i64 s4) := (Box.cell C4 0).trans rfl
    have V4 := hide (bel_new U4)
    clear C4 U4 K4
    go_wp2
    · go_ret2
      exact ⟨x4, 1, rfl, h4, by omega, unhide V4⟩
    · go_ret2
      exact ⟨x4, 0, rfl, h4, by omega, unhide V4⟩
end Go.Proofs.Ytflmlbdcjjldgaa.QPiv
