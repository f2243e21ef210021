/- Contracts: fit of cross, where the three fit; elements in memory. Conditions: the image is good, the bits are from 2 to 9, there are as many elements as blocks. -/
import Derived.Test.YtejfjocoadfahaaXLes
import Derived.Test.YtejfjocoadfahaaLBlk
namespace Go.Proofs.Ytejfjocoadfahaa.XFit
set_option linter.unusedVariables false
open Go.ChangeShapes Go.WideShapes Go.ChangeAt Go.RowKit Go.Sort Go.Proofs.Ytejfjocoadfahaa.Core Go.Proofs.Ytejfjocoadfahaa.PNum Go.Proofs.Ytejfjocoadfahaa.PGoo Go.Proofs.Ytejfjocoadfahaa.XNum Go.Proofs.Ytejfjocoadfahaa.Ims Go.Proofs.Ytejfjocoadfahaa.XDel Go.Proofs.Ytejfjocoadfahaa.XLes Go.Proofs.Ytejfjocoadfahaa.LBlk

set_option maxHeartbeats 1000000 in
theorem fitI (W H k p q r : Nat) (a a' : Option Addr) (n c cm : Nat) (w w1 : World) (e1 : w1 = w.alloc (.cells #[.int .i64 W, .int .i64 H, .slice a n c] 24)) (HG : gdV W H n = true) (hk2 : 2 ≤ k) (hk : k ≤ 9)
    (M : IntKind.i64.wrap ((p : Int) * (q : Int)) = (r : Int)) (QP : ∀ w, Calls Try.prog 25 #[.int .i64 W, .int .i64 k] w fun e w' => e = .returned (.int .i64 p) ∧ w' = w) (QQ : ∀ w, Calls Try.prog 25 #[.int .i64 H, .int .i64 k] w fun e w' => e = .returned (.int .i64 q) ∧ w' = w) :
    Calls Try.prog 24 #[.agg #[.int .i64 W, .int .i64 H, .slice a n c], .int .i64 k, .slice a' r cm] w fun e w' => e = .returned (.bool true) ∧ Below w.heap.size w w' := by
  have BL : Hid (Below w.heap.size w w1) := hide (e1 ▸ (Below.refl w.heap.size w).alloc (Nat.le_refl _) _)
  have BX : Box w1 w.heap.size 24 #[.int .i64 W, .int .i64 H, .slice a n c] := e1 ▸ Box.made w 24 _
  have k0 := cell_regrown (show w1.cell? ⟨w.heap.size, 0, none⟩ = some (.int .i64 W) from BX.cell 0)
  have k1 := cell_regrown (show w1.cell? ⟨w.heap.size, 1, none⟩ = some (.int .i64 H) from BX.cell 1)
  have k2 := cell_regrown (show w1.cell? ⟨w.heap.size, 2, none⟩ = some (.slice a n c) from BX.cell 2)
  clear BX
  have q28 : ∀ d os, Calls Try.prog 28 #[.agg #[.int .i64 W, .int .i64 H, .slice a n c]] (grow (redrawn w1 d) os) fun e w'' => e = .returned (.bool true) ∧ ∃ p : Regrown, w'' = grow (redrawn w1 p.d) p.os := fun d os => by
    have h := Calls.regrown_of (good24 W H a n c (grow (redrawn w1 d) os))
    rw [HG] at h
    exact h
  have Q28 := hide q28
  have QP1 : Hid (∀ d os, Calls Try.prog 25 #[.int .i64 W, .int .i64 k] (grow (redrawn w1 d) os) fun e w'' => e = .returned (.int .i64 p) ∧ ∃ p : Regrown, w'' = grow (redrawn w1 p.d) p.os) := hide fun d os => Calls.regrown_of ((QP _).mono fun e w' h => ⟨h.1, h.2 ▸ Below.refl _ _⟩)
  have QQ1 : Hid (∀ d os, Calls Try.prog 25 #[.int .i64 H, .int .i64 k] (grow (redrawn w1 d) os) fun e w'' => e = .returned (.int .i64 q) ∧ ∃ p : Regrown, w'' = grow (redrawn w1 p.d) p.os) := hide fun d os => Calls.regrown_of ((QQ _).mono fun e w' h => ⟨h.1, h.2 ▸ Below.refl _ _⟩)
  have hd : decide ((2 : Int) ≤ (k : Int)) = true := decide_eq_true (by omega)
  have hd9 : decide ((k : Int) ≤ 9) = true := decide_eq_true (by omega)
  have hw1 := hide e1
  clear e1 q28 QP QQ HG
  go_enter Try.func24, Try.ntmps24
  go_wp2_with fail
  rw [← unhide hw1]
  refine wp_region_quiet_below (by kernel_rfl) (by kernel_rfl) ?_
  repeat (go_big_quiet_step (first | (go_at_call 28; with_reducible exact unhide Q28 _ _) | (go_at_call 25; with_reducible exact unhide QP1 _ _) | (go_at_call 25; with_reducible exact unhide QQ1 _ _)))
  refine wpQuiet_nil ?_
  intro _ hw'
  obtain ⟨⟨dq, osq⟩, hw''⟩ := hw'
  subst hw''
  go_wp2
  go_ret
  exact ⟨rfl, below_two (unhide BL) (below_regrown w1 dq osq)⟩
theorem fit24 (W H k : Nat) (a a' : Option Addr) (n c m cm : Nat) (w : World) (HG : gdV W H n = true) (hW : W ≤ 16384) (hH : H ≤ 16384) (hk2 : 2 ≤ k) (hk : k ≤ 9) (hm : m = bl W k * bl H k) :
    Calls Try.prog 24 #[.agg #[.int .i64 W, .int .i64 H, .slice a n c], .int .i64 k, .slice a' m cm] w fun e w' => e = .returned (.bool true) ∧ Below w.heap.size w w' := by
  rw [hm]
  exact fitI W H k (bl W k) (bl H k) _ a a' n c cm w _ rfl HG hk2 hk (prod_wrap (Nat.le_trans (bl_le W k) hW) (Nat.le_trans (bl_le H k) hH)) (fun w => blk36 W k w hW hk) (fun w => blk36 H k w hH hk)
/-- Elements in memory, from one place on. -/
def Els (w : World) (b o m : Nat) (E : Nat → El) : Prop := ∀ i, i < m → w.cell? ⟨b, o + i * 3, none⟩ = some (.int .i8 (E i).a) ∧ w.cell? ⟨b, o + i * 3 + 1, none⟩ = some (.int .i8 (E i).b) ∧ w.cell? ⟨b, o + i * 3 + 2, none⟩ = some (.int .i8 (E i).c) ∧ (E i).ok
theorem Els.below {w w' : World} {b o m : Nat} {E : Nat → El} (h : Els w b o m E) (u : Below w.heap.size w w') : Els w' b o m E := fun i hi => by
  obtain ⟨h0, h1, h2, ok⟩ := h i hi
  have hl := lt_of_cell h0
  exact ⟨(u.cell (p := ⟨b, o + i * 3, none⟩) hl).trans h0, (u.cell (p := ⟨b, o + i * 3 + 1, none⟩) hl).trans h1, (u.cell (p := ⟨b, o + i * 3 + 2, none⟩) hl).trans h2, ok⟩
end Go.Proofs.Ytejfjocoadfahaa.XFit
