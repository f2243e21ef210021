/- Contracts: lean.Sound. Conditions: the modes are in memory, and they are few. -/
import Derived.Test.YtnfokdcoelignaaLMod
namespace Go.Proofs.Ytnfokdcoelignaa.LSnd
set_option linter.unusedVariables false
open Go.ChangeShapes Go.WideShapes Go.ChangeAt Go.RowKit Go.Sort Go.Proofs.Ytnfokdcoelignaa.Core Go.Proofs.Ytnfokdcoelignaa.PNum Go.Proofs.Ytnfokdcoelignaa.PFun Go.Proofs.Ytnfokdcoelignaa.PGoo Go.Proofs.Ytnfokdcoelignaa.GGue Go.Proofs.Ytnfokdcoelignaa.GImg Go.Proofs.Ytnfokdcoelignaa.GAro Go.Proofs.Ytnfokdcoelignaa.GAtt Go.Proofs.Ytnfokdcoelignaa.GCpy Go.Proofs.Ytnfokdcoelignaa.LBlk Go.Proofs.Ytnfokdcoelignaa.LMod

/-- Sound. -/
def soV (W H : Int) (n : Nat) (bits : Int) (m : Nat) (md : Nat → Int) : Bool :=
  gdV W H n && (decide (2 ≤ bits ∧ bits ≤ 9) && (decide (m = bl W.toNat bits.toNat * bl H.toNat bits.toNat) && mdB md m))
theorem so_bad {W H : Int} {n : Nat} (bits : Int) (m : Nat) (md : Nat → Int) (h : gdV W H n = false) : soV W H n bits m md = false := by unfold soV; rw [h]; rfl
theorem so_bits (W H : Int) (n : Nat) {bits : Int} (m : Nat) (md : Nat → Int) (h : bits < 2 ∨ 9 < bits) : soV W H n bits m md = false := by
  unfold soV; rw [decide_eq_false (by omega : ¬ (2 ≤ bits ∧ bits ≤ 9)), Bool.false_and, Bool.and_false]
theorem so_fit (W H n k : Nat) {m : Nat} (md : Nat → Int) (h : ¬ m = bl W k * bl H k) : soV W H n k m md = false := by
  unfold soV
  rw [Int.toNat_natCast, Int.toNat_natCast, Int.toNat_natCast, decide_eq_false h, Bool.false_and, Bool.and_false, Bool.and_false]
theorem so_md (W H : Int) (n : Nat) (bits : Int) {m : Nat} {md : Nat → Int} (h : mdB md m = false) : soV W H n bits m md = false := by
  unfold soV; rw [h, Bool.and_false, Bool.and_false, Bool.and_false]
theorem so_yes {W H n k m : Nat} {md : Nat → Int} (hg : gdV W H n = true) (h2 : 2 ≤ k) (h9 : k ≤ 9) (h : m = bl W k * bl H k) (hm : mdB md m = true) : soV W H n k m md = true := by
  unfold soV
  rw [Int.toNat_natCast, Int.toNat_natCast, Int.toNat_natCast, decide_eq_true h, hg, hm, decide_eq_true (by omega : (2 : Int) ≤ k ∧ (k : Int) ≤ 9)]; rfl
theorem so_of {W H : Int} {n : Nat} {bits : Int} {m : Nat} {md : Nat → Int} (h : soV W H n bits m md = true) :
    ∃ W' H' k : Nat, W = W' ∧ H = H' ∧ bits = k ∧ 1 ≤ W' ∧ W' ≤ 16384 ∧ 1 ≤ H' ∧ H' ≤ 16384 ∧ n = W' * H' ∧ 2 ≤ k ∧ k ≤ 9 ∧ m = bl W' k * bl H' k ∧ (∀ i, i < m → 0 ≤ md i ∧ md i ≤ 15) := by
  unfold soV at h
  simp only [Bool.and_eq_true] at h
  obtain ⟨hg, hb, hf, hm⟩ := h
  have k : 1 ≤ W ∧ W ≤ 16384 ∧ 1 ≤ H ∧ H ≤ 16384 ∧ (n : Int) = W * H := of_decide_eq_true hg
  have b := of_decide_eq_true hb
  have f := of_decide_eq_true hf
  obtain ⟨W', rfl⟩ := Int.eq_ofNat_of_zero_le (a := W) (by omega)
  obtain ⟨H', rfl⟩ := Int.eq_ofNat_of_zero_le (a := H) (by omega)
  obtain ⟨k', rfl⟩ := Int.eq_ofNat_of_zero_le (a := bits) (by omega)
  rw [Int.toNat_natCast, Int.toNat_natCast, Int.toNat_natCast] at f
  refine ⟨W', H', k', rfl, rfl, rfl, by omega, by omega, by omega, by omega, ?_, by omega, by omega, f, of_decide_eq_true hm⟩
  have := k.2.2.2.2
  rw [← Int.natCast_mul] at this
  omega
theorem gd_of {W H : Int} {n : Nat} (h : gdV W H n = true) : ∃ W' H' : Nat, W = W' ∧ H = H' ∧ 1 ≤ W' ∧ W' ≤ 16384 ∧ 1 ≤ H' ∧ H' ≤ 16384 ∧ n = W' * H' := by
  have k : 1 ≤ W ∧ W ≤ 16384 ∧ 1 ≤ H ∧ H ≤ 16384 ∧ (n : Int) = W * H := of_decide_eq_true h
  obtain ⟨W', rfl⟩ := Int.eq_ofNat_of_zero_le (a := W) (by omega)
  obtain ⟨H', rfl⟩ := Int.eq_ofNat_of_zero_le (a := H) (by omega)
  refine ⟨W', H', rfl, rfl, by omega, by omega, by omega, by omega, ?_⟩
  have := k.2.2.2.2
  rw [← Int.natCast_mul] at this
  omega
theorem gd_mk {W H n : Nat} (h1 : 1 ≤ W) (h2 : W ≤ 16384) (h3 : 1 ≤ H) (h4 : H ≤ 16384) (h5 : n = W * H) : gdV W H n = true := by
  refine decide_eq_true ⟨by omega, by omega, by omega, by omega, ?_⟩
  rw [← Int.natCast_mul]
  omega
set_option maxHeartbeats 1000000 in
theorem snd_bad (W H k : Int) (a a' : Option Addr) (n c m cm : Nat) (w w1 : World) (e1 : w1 = w.alloc (.cells #[.int .i64 W, .int .i64 H, .slice a n c] 24)) (HG : gdV W H n = false) :
    Calls Try.prog 11 #[.agg #[.int .i64 W, .int .i64 H, .slice a n c], .int .i64 k, .slice a' m cm] w fun e w' => e = .returned (.bool false) ∧ Below w.heap.size w w' := by
  have BL : Hid (Below w.heap.size w w1) := hide (e1 ▸ (Below.refl w.heap.size w).alloc (Nat.le_refl _) _)
  have BX : Box w1 w.heap.size 24 #[.int .i64 W, .int .i64 H, .slice a n c] := e1 ▸ Box.made w 24 _
  have k0 := cell_regrown (show w1.cell? ⟨w.heap.size, 0, none⟩ = some (.int .i64 W) from BX.cell 0)
  have k1 := cell_regrown (show w1.cell? ⟨w.heap.size, 1, none⟩ = some (.int .i64 H) from BX.cell 1)
  have k2 := cell_regrown (show w1.cell? ⟨w.heap.size, 2, none⟩ = some (.slice a n c) from BX.cell 2)
  clear BX
  have q27 : ∀ d os, Calls Try.prog 27 #[.agg #[.int .i64 W, .int .i64 H, .slice a n c]] (grow (redrawn w1 d) os) fun e w'' => e = .returned (.bool false) ∧ ∃ p : Regrown, w'' = grow (redrawn w1 p.d) p.os := fun d os => by
    have h := Calls.regrown_of (good24 W H a n c (grow (redrawn w1 d) os))
    rw [HG] at h
    exact h
  clear HG
  have hw1 := hide (show w1 = w.alloc (.cells #[.int .i64 W, .int .i64 H, .slice a n c] 24) from e1)
  clear e1
  have Q27 := hide q27
  clear q27
  go_enter Try.func11, Try.ntmps11
  go_wp2_with fail
  rw [← unhide hw1]
  refine wp_region_quiet_below (by kernel_rfl) (by kernel_rfl) ?_
  repeat (go_big_quiet_step (first | (go_at_call 27; with_reducible exact unhide Q27 _ _)))
  refine wpQuiet_nil ?_
  intro _ hw'
  obtain ⟨⟨dq, osq⟩, hw''⟩ := hw'
  subst hw''
  go_wp2
  go_ret
  exact ⟨rfl, below_two (unhide BL) (below_regrown w1 dq osq)⟩
set_option maxHeartbeats 1000000 in
theorem snd_low (W H k : Int) (a a' : Option Addr) (n c m cm : Nat) (w w1 : World) (e1 : w1 = w.alloc (.cells #[.int .i64 W, .int .i64 H, .slice a n c] 24)) (HG : gdV W H n = true) (hd : decide ((2 : Int) ≤ k) = false) :
    Calls Try.prog 11 #[.agg #[.int .i64 W, .int .i64 H, .slice a n c], .int .i64 k, .slice a' m cm] w fun e w' => e = .returned (.bool false) ∧ Below w.heap.size w w' := by
  have BL : Hid (Below w.heap.size w w1) := hide (e1 ▸ (Below.refl w.heap.size w).alloc (Nat.le_refl _) _)
  have BX : Box w1 w.heap.size 24 #[.int .i64 W, .int .i64 H, .slice a n c] := e1 ▸ Box.made w 24 _
  have k0 := cell_regrown (show w1.cell? ⟨w.heap.size, 0, none⟩ = some (.int .i64 W) from BX.cell 0)
  have k1 := cell_regrown (show w1.cell? ⟨w.heap.size, 1, none⟩ = some (.int .i64 H) from BX.cell 1)
  have k2 := cell_regrown (show w1.cell? ⟨w.heap.size, 2, none⟩ = some (.slice a n c) from BX.cell 2)
  clear BX
  have q27 : ∀ d os, Calls Try.prog 27 #[.agg #[.int .i64 W, .int .i64 H, .slice a n c]] (grow (redrawn w1 d) os) fun e w'' => e = .returned (.bool true) ∧ ∃ p : Regrown, w'' = grow (redrawn w1 p.d) p.os := fun d os => by
    have h := Calls.regrown_of (good24 W H a n c (grow (redrawn w1 d) os))
    rw [HG] at h
    exact h
  clear HG
  have hw1 := hide (show w1 = w.alloc (.cells #[.int .i64 W, .int .i64 H, .slice a n c] 24) from e1)
  clear e1
  have Q27 := hide q27
  clear q27
  go_enter Try.func11, Try.ntmps11
  go_wp2_with fail
  rw [← unhide hw1]
  refine wp_region_quiet_below (by kernel_rfl) (by kernel_rfl) ?_
  repeat (go_big_quiet_step (first | (go_at_call 27; with_reducible exact unhide Q27 _ _)))
  refine wpQuiet_nil ?_
  intro _ hw'
  obtain ⟨⟨dq, osq⟩, hw''⟩ := hw'
  subst hw''
  go_wp2
  go_ret
  exact ⟨rfl, below_two (unhide BL) (below_regrown w1 dq osq)⟩
set_option maxHeartbeats 1000000 in
theorem snd_high (W H k : Int) (a a' : Option Addr) (n c m cm : Nat) (w w1 : World) (e1 : w1 = w.alloc (.cells #[.int .i64 W, .int .i64 H, .slice a n c] 24)) (HG : gdV W H n = true) (hd : decide ((2 : Int) ≤ k) = true) (hd9 : decide (k ≤ (9 : Int)) = false) :
    Calls Try.prog 11 #[.agg #[.int .i64 W, .int .i64 H, .slice a n c], .int .i64 k, .slice a' m cm] w fun e w' => e = .returned (.bool false) ∧ Below w.heap.size w w' := by
  have BL : Hid (Below w.heap.size w w1) := hide (e1 ▸ (Below.refl w.heap.size w).alloc (Nat.le_refl _) _)
  have BX : Box w1 w.heap.size 24 #[.int .i64 W, .int .i64 H, .slice a n c] := e1 ▸ Box.made w 24 _
  have k0 := cell_regrown (show w1.cell? ⟨w.heap.size, 0, none⟩ = some (.int .i64 W) from BX.cell 0)
  have k1 := cell_regrown (show w1.cell? ⟨w.heap.size, 1, none⟩ = some (.int .i64 H) from BX.cell 1)
  have k2 := cell_regrown (show w1.cell? ⟨w.heap.size, 2, none⟩ = some (.slice a n c) from BX.cell 2)
  clear BX
  have q27 : ∀ d os, Calls Try.prog 27 #[.agg #[.int .i64 W, .int .i64 H, .slice a n c]] (grow (redrawn w1 d) os) fun e w'' => e = .returned (.bool true) ∧ ∃ p : Regrown, w'' = grow (redrawn w1 p.d) p.os := fun d os => by
    have h := Calls.regrown_of (good24 W H a n c (grow (redrawn w1 d) os))
    rw [HG] at h
    exact h
  clear HG
  have hw1 := hide (show w1 = w.alloc (.cells #[.int .i64 W, .int .i64 H, .slice a n c] 24) from e1)
  clear e1
  have Q27 := hide q27
  clear q27
  go_enter Try.func11, Try.ntmps11
  go_wp2_with fail
  rw [← unhide hw1]
  refine wp_region_quiet_below (by kernel_rfl) (by kernel_rfl) ?_
  repeat (go_big_quiet_step (first | (go_at_call 27; with_reducible exact unhide Q27 _ _)))
  refine wpQuiet_nil ?_
  intro _ hw'
  obtain ⟨⟨dq, osq⟩, hw''⟩ := hw'
  subst hw''
  go_wp2
  go_ret
  exact ⟨rfl, below_two (unhide BL) (below_regrown w1 dq osq)⟩
set_option maxHeartbeats 1000000 in
theorem snd_fit (W H k : Nat) (a a' : Option Addr) (n c m cm : Nat) (w w1 : World) (e1 : w1 = w.alloc (.cells #[.int .i64 W, .int .i64 H, .slice a n c] 24)) (HG : gdV W H n = true) (hW : W ≤ 16384) (hH : H ≤ 16384) (hk2 : 2 ≤ k) (hk : k ≤ 9) (HF : ((m : Int) == ((bl W k * bl H k : Nat) : Int)) = false) :
    Calls Try.prog 11 #[.agg #[.int .i64 W, .int .i64 H, .slice a n c], .int .i64 k, .slice a' m cm] w fun e w' => e = .returned (.bool false) ∧ Below w.heap.size w w' := by
  have BL : Hid (Below w.heap.size w w1) := hide (e1 ▸ (Below.refl w.heap.size w).alloc (Nat.le_refl _) _)
  have BX : Box w1 w.heap.size 24 #[.int .i64 W, .int .i64 H, .slice a n c] := e1 ▸ Box.made w 24 _
  have k0 := cell_regrown (show w1.cell? ⟨w.heap.size, 0, none⟩ = some (.int .i64 W) from BX.cell 0)
  have k1 := cell_regrown (show w1.cell? ⟨w.heap.size, 1, none⟩ = some (.int .i64 H) from BX.cell 1)
  have k2 := cell_regrown (show w1.cell? ⟨w.heap.size, 2, none⟩ = some (.slice a n c) from BX.cell 2)
  clear BX
  have q27 : ∀ d os, Calls Try.prog 27 #[.agg #[.int .i64 W, .int .i64 H, .slice a n c]] (grow (redrawn w1 d) os) fun e w'' => e = .returned (.bool true) ∧ ∃ p : Regrown, w'' = grow (redrawn w1 p.d) p.os := fun d os => by
    have h := Calls.regrown_of (good24 W H a n c (grow (redrawn w1 d) os))
    rw [HG] at h
    exact h
  have q19 : ∀ d os, Calls Try.prog 19 #[.agg #[.int .i64 W, .int .i64 H, .slice a n c], .int .i64 k, .slice a' m cm] (grow (redrawn w1 d) os) fun e w'' => e = .returned (.agg #[.int .i64 k, .int .i64 (bl W k), .slice a' m cm]) ∧ ∃ p : Regrown, w'' = grow (redrawn w1 p.d) p.os := fun d os => by
    have h := Calls.regrown_of (blo19 W k H a a' n c m cm (grow (redrawn w1 d) os) hW hk)
    exact h
  have q28 : ∀ d os, Calls Try.prog 28 #[.agg #[.int .i64 k, .int .i64 (bl W k), .slice a' m cm], .agg #[.int .i64 W, .int .i64 H, .slice a n c]] (grow (redrawn w1 d) os) fun e w'' => e = .returned (.bool false) ∧ ∃ p : Regrown, w'' = grow (redrawn w1 p.d) p.os := fun d os => by
    have h := Calls.regrown_of (fit28 W H k a a' n c m cm (grow (redrawn w1 d) os) hW hH hk)
    rw [HF] at h
    exact h
  clear HG HF hW hH
  generalize bl W k = p at *
  have hd : decide ((2 : Int) ≤ (k : Int)) = true := decide_eq_true (by omega)
  have hd9 : decide ((k : Int) ≤ 9) = true := decide_eq_true (by omega)
  have hw1 := hide (show w1 = w.alloc (.cells #[.int .i64 W, .int .i64 H, .slice a n c] 24) from e1)
  clear e1
  have Q27 := hide q27
  have Q19 := hide q19
  have Q28 := hide q28
  clear q27 q19 q28
  go_enter Try.func11, Try.ntmps11
  go_wp2_with fail
  rw [← unhide hw1]
  refine wp_region_quiet_below (by kernel_rfl) (by kernel_rfl) ?_
  repeat (go_big_quiet_step (first | (go_at_call 27; with_reducible exact unhide Q27 _ _) | (go_at_call 19; with_reducible exact unhide Q19 _ _) | (go_at_call 28; with_reducible exact unhide Q28 _ _)))
  refine wpQuiet_nil ?_
  intro _ hw'
  obtain ⟨⟨dq, osq⟩, hw''⟩ := hw'
  subst hw''
  go_wp2
  go_ret
  exact ⟨rfl, below_two (unhide BL) (below_regrown w1 dq osq)⟩
set_option maxHeartbeats 1000000 in
theorem snd_md (W H k : Nat) (md : Nat → Int) (a a' : Option Addr) (n c m cm : Nat) (w w1 : World) (e1 : w1 = w.alloc (.cells #[.int .i64 W, .int .i64 H, .slice a n c] 24)) (HG : gdV W H n = true) (hW : W ≤ 16384) (hH : H ≤ 16384) (hk2 : 2 ≤ k) (hk : k ≤ 9) (HF : ((m : Int) == ((bl W k * bl H k : Nat) : Int)) = true) (hl : m ≤ 1000000) (src : Mds w1 a' m md) (HM : (!mdB md m) = true) :
    Calls Try.prog 11 #[.agg #[.int .i64 W, .int .i64 H, .slice a n c], .int .i64 k, .slice a' m cm] w fun e w' => e = .returned (.bool false) ∧ Below w.heap.size w w' := by
  have BL : Hid (Below w.heap.size w w1) := hide (e1 ▸ (Below.refl w.heap.size w).alloc (Nat.le_refl _) _)
  have BX : Box w1 w.heap.size 24 #[.int .i64 W, .int .i64 H, .slice a n c] := e1 ▸ Box.made w 24 _
  have k0 := cell_regrown (show w1.cell? ⟨w.heap.size, 0, none⟩ = some (.int .i64 W) from BX.cell 0)
  have k1 := cell_regrown (show w1.cell? ⟨w.heap.size, 1, none⟩ = some (.int .i64 H) from BX.cell 1)
  have k2 := cell_regrown (show w1.cell? ⟨w.heap.size, 2, none⟩ = some (.slice a n c) from BX.cell 2)
  clear BX
  have q27 : ∀ d os, Calls Try.prog 27 #[.agg #[.int .i64 W, .int .i64 H, .slice a n c]] (grow (redrawn w1 d) os) fun e w'' => e = .returned (.bool true) ∧ ∃ p : Regrown, w'' = grow (redrawn w1 p.d) p.os := fun d os => by
    have h := Calls.regrown_of (good24 W H a n c (grow (redrawn w1 d) os))
    rw [HG] at h
    exact h
  have q19 : ∀ d os, Calls Try.prog 19 #[.agg #[.int .i64 W, .int .i64 H, .slice a n c], .int .i64 k, .slice a' m cm] (grow (redrawn w1 d) os) fun e w'' => e = .returned (.agg #[.int .i64 k, .int .i64 (bl W k), .slice a' m cm]) ∧ ∃ p : Regrown, w'' = grow (redrawn w1 p.d) p.os := fun d os => by
    have h := Calls.regrown_of (blo19 W k H a a' n c m cm (grow (redrawn w1 d) os) hW hk)
    exact h
  have q28 : ∀ d os, Calls Try.prog 28 #[.agg #[.int .i64 k, .int .i64 (bl W k), .slice a' m cm], .agg #[.int .i64 W, .int .i64 H, .slice a n c]] (grow (redrawn w1 d) os) fun e w'' => e = .returned (.bool true) ∧ ∃ p : Regrown, w'' = grow (redrawn w1 p.d) p.os := fun d os => by
    have h := Calls.regrown_of (fit28 W H k a a' n c m cm (grow (redrawn w1 d) os) hW hH hk)
    rw [HF] at h
    exact h
  have q29 : ∀ d os, Calls Try.prog 29 #[.slice a' m cm, .func (.func 30) #[] #[]] (grow (redrawn w1 d) os) fun e w'' => e = .returned (.bool true) ∧ ∃ p : Regrown, w'' = grow (redrawn w1 p.d) p.os := fun d os => by
    have h := Calls.regrown_of (con29 a' m cm md hl (grow (redrawn w1 d) os) (src.below (below_regrown w1 d os)))
    rw [HM] at h
    exact h
  clear HG HF hW hH HM src hl
  generalize bl W k = p at *
  have hd : decide ((2 : Int) ≤ (k : Int)) = true := decide_eq_true (by omega)
  have hd9 : decide ((k : Int) ≤ 9) = true := decide_eq_true (by omega)
  have hw1 := hide (show w1 = w.alloc (.cells #[.int .i64 W, .int .i64 H, .slice a n c] 24) from e1)
  clear e1
  have Q27 := hide q27
  have Q19 := hide q19
  have Q28 := hide q28
  have Q29 := hide q29
  clear q27 q19 q28 q29
  go_enter Try.func11, Try.ntmps11
  go_wp2_with fail
  rw [← unhide hw1]
  refine wp_region_quiet_below (by kernel_rfl) (by kernel_rfl) ?_
  repeat (go_big_quiet_step (first | (go_at_call 27; with_reducible exact unhide Q27 _ _) | (go_at_call 19; with_reducible exact unhide Q19 _ _) | (go_at_call 28; with_reducible exact unhide Q28 _ _) | (go_at_call 29; with_reducible exact unhide Q29 _ _)))
  refine wpQuiet_nil ?_
  intro _ hw'
  obtain ⟨⟨dq, osq⟩, hw''⟩ := hw'
  subst hw''
  go_wp2
  go_ret
  exact ⟨rfl, below_two (unhide BL) (below_regrown w1 dq osq)⟩
set_option maxHeartbeats 1000000 in
theorem snd_yes (W H k : Nat) (md : Nat → Int) (a a' : Option Addr) (n c m cm : Nat) (w w1 : World) (e1 : w1 = w.alloc (.cells #[.int .i64 W, .int .i64 H, .slice a n c] 24)) (HG : gdV W H n = true) (hW : W ≤ 16384) (hH : H ≤ 16384) (hk2 : 2 ≤ k) (hk : k ≤ 9) (HF : ((m : Int) == ((bl W k * bl H k : Nat) : Int)) = true) (hl : m ≤ 1000000) (src : Mds w1 a' m md) (HM : (!mdB md m) = false) :
    Calls Try.prog 11 #[.agg #[.int .i64 W, .int .i64 H, .slice a n c], .int .i64 k, .slice a' m cm] w fun e w' => e = .returned (.bool true) ∧ Below w.heap.size w w' := by
  have BL : Hid (Below w.heap.size w w1) := hide (e1 ▸ (Below.refl w.heap.size w).alloc (Nat.le_refl _) _)
  have BX : Box w1 w.heap.size 24 #[.int .i64 W, .int .i64 H, .slice a n c] := e1 ▸ Box.made w 24 _
  have k0 := cell_regrown (show w1.cell? ⟨w.heap.size, 0, none⟩ = some (.int .i64 W) from BX.cell 0)
  have k1 := cell_regrown (show w1.cell? ⟨w.heap.size, 1, none⟩ = some (.int .i64 H) from BX.cell 1)
  have k2 := cell_regrown (show w1.cell? ⟨w.heap.size, 2, none⟩ = some (.slice a n c) from BX.cell 2)
  clear BX
  have q27 : ∀ d os, Calls Try.prog 27 #[.agg #[.int .i64 W, .int .i64 H, .slice a n c]] (grow (redrawn w1 d) os) fun e w'' => e = .returned (.bool true) ∧ ∃ p : Regrown, w'' = grow (redrawn w1 p.d) p.os := fun d os => by
    have h := Calls.regrown_of (good24 W H a n c (grow (redrawn w1 d) os))
    rw [HG] at h
    exact h
  have q19 : ∀ d os, Calls Try.prog 19 #[.agg #[.int .i64 W, .int .i64 H, .slice a n c], .int .i64 k, .slice a' m cm] (grow (redrawn w1 d) os) fun e w'' => e = .returned (.agg #[.int .i64 k, .int .i64 (bl W k), .slice a' m cm]) ∧ ∃ p : Regrown, w'' = grow (redrawn w1 p.d) p.os := fun d os => by
    have h := Calls.regrown_of (blo19 W k H a a' n c m cm (grow (redrawn w1 d) os) hW hk)
    exact h
  have q28 : ∀ d os, Calls Try.prog 28 #[.agg #[.int .i64 k, .int .i64 (bl W k), .slice a' m cm], .agg #[.int .i64 W, .int .i64 H, .slice a n c]] (grow (redrawn w1 d) os) fun e w'' => e = .returned (.bool true) ∧ ∃ p : Regrown, w'' = grow (redrawn w1 p.d) p.os := fun d os => by
    have h := Calls.regrown_of (fit28 W H k a a' n c m cm (grow (redrawn w1 d) os) hW hH hk)
    rw [HF] at h
    exact h
  have q29 : ∀ d os, Calls Try.prog 29 #[.slice a' m cm, .func (.func 30) #[] #[]] (grow (redrawn w1 d) os) fun e w'' => e = .returned (.bool false) ∧ ∃ p : Regrown, w'' = grow (redrawn w1 p.d) p.os := fun d os => by
    have h := Calls.regrown_of (con29 a' m cm md hl (grow (redrawn w1 d) os) (src.below (below_regrown w1 d os)))
    rw [HM] at h
    exact h
  clear HG HF hW hH HM src hl
  generalize bl W k = p at *
  have hd : decide ((2 : Int) ≤ (k : Int)) = true := decide_eq_true (by omega)
  have hd9 : decide ((k : Int) ≤ 9) = true := decide_eq_true (by omega)
  have hw1 := hide (show w1 = w.alloc (.cells #[.int .i64 W, .int .i64 H, .slice a n c] 24) from e1)
  clear e1
  have Q27 := hide q27
  have Q19 := hide q19
  have Q28 := hide q28
  have Q29 := hide q29
  clear q27 q19 q28 q29
  go_enter Try.func11, Try.ntmps11
  go_wp2_with fail
  rw [← unhide hw1]
  refine wp_region_quiet_below (by kernel_rfl) (by kernel_rfl) ?_
  repeat (go_big_quiet_step (first | (go_at_call 27; with_reducible exact unhide Q27 _ _) | (go_at_call 19; with_reducible exact unhide Q19 _ _) | (go_at_call 28; with_reducible exact unhide Q28 _ _) | (go_at_call 29; with_reducible exact unhide Q29 _ _)))
  refine wpQuiet_nil ?_
  intro _ hw'
  obtain ⟨⟨dq, osq⟩, hw''⟩ := hw'
  subst hw''
  go_wp2
  go_ret
  exact ⟨rfl, below_two (unhide BL) (below_regrown w1 dq osq)⟩
theorem sound11 (W H bits : Int) (a a' : Option Addr) (n c m cm : Nat) (md : Nat → Int) (w : World) (hl : m ≤ 1000000) (src : Mds w a' m md) :
    Calls Try.prog 11 #[.agg #[.int .i64 W, .int .i64 H, .slice a n c], .int .i64 bits, .slice a' m cm] w fun e w' => e = .returned (.bool (soV W H n bits m md)) ∧ Below w.heap.size w w' := by
  rcases Bool.eq_false_or_eq_true (gdV W H n) with hg | hg
  · by_cases h2 : 2 ≤ bits
    · by_cases h9 : bits ≤ 9
      · obtain ⟨W, H, rfl, rfl, h1, h3, h4, h5, h6⟩ := gd_of hg
        obtain ⟨k, rfl⟩ := Int.eq_ofNat_of_zero_le (a := bits) (by omega)
        by_cases hf : m = bl W k * bl H k
        · have HF : ((m : Int) == ((bl W k * bl H k : Nat) : Int)) = true := by simpa using congrArg Int.ofNat hf
          have s1 := src.below ((Below.refl w.heap.size w).alloc (Nat.le_refl _) (.cells #[.int .i64 W, .int .i64 H, .slice a n c] 24))
          rcases Bool.eq_false_or_eq_true (mdB md m) with hm | hm
          · rw [so_yes hg (by omega) (by omega) hf hm]
            exact snd_yes W H k md a a' n c m cm w _ rfl hg h3 h5 (by omega) (by omega) HF hl s1 (by rw [hm]; rfl)
          · rw [so_md _ _ _ _ hm]
            exact snd_md W H k md a a' n c m cm w _ rfl hg h3 h5 (by omega) (by omega) HF hl s1 (by rw [hm]; rfl)
        · have HF : ((m : Int) == ((bl W k * bl H k : Nat) : Int)) = false := by
            rw [beq_eq_false_iff_ne]
            exact fun h => hf (Int.ofNat.inj h)
          rw [so_fit W H n k md hf]
          exact snd_fit W H k a a' n c m cm w _ rfl hg h3 h5 (by omega) (by omega) HF
      · rw [so_bits _ _ _ _ _ (.inr (by omega))]
        exact snd_high W H bits a a' n c m cm w _ rfl hg (decide_eq_true h2) (decide_eq_false h9)
    · rw [so_bits _ _ _ _ _ (.inl (by omega))]
      exact snd_low W H bits a a' n c m cm w _ rfl hg (decide_eq_false h2)
  · rw [so_bad _ _ _ hg]
    exact snd_bad W H bits a a' n c m cm w _ rfl hg
end Go.Proofs.Ytnfokdcoelignaa.LSnd
