/- Contracts: lean's own small functions, and Sound. Conditions: the modes are in memory; elsewhere as each says. -/
import Derived.Test.YtnfokdcoelignaaGCpy
import Derived.Test.YtnfokdcoelignaaLBlk
namespace Go.Proofs.Ytnfokdcoelignaa.LMod
set_option linter.unusedVariables false
open Go.ChangeShapes Go.WideShapes Go.ChangeAt Go.RowKit Go.Sort Go.Proofs.Ytnfokdcoelignaa.Core Go.Proofs.Ytnfokdcoelignaa.PNum Go.Proofs.Ytnfokdcoelignaa.PFun Go.Proofs.Ytnfokdcoelignaa.PGoo Go.Proofs.Ytnfokdcoelignaa.GGue Go.Proofs.Ytnfokdcoelignaa.GImg Go.Proofs.Ytnfokdcoelignaa.GAro Go.Proofs.Ytnfokdcoelignaa.GAtt Go.Proofs.Ytnfokdcoelignaa.GCpy Go.Proofs.Ytnfokdcoelignaa.LBlk

/-- Integers in memory, from one place on. -/
def Mds (w : World) (a : Option Addr) (n : Nat) (md : Nat → Int) : Prop := ∀ i, i < n → ∃ b off, a = some ⟨b, off, none⟩ ∧ w.cell? ⟨b, off + i, none⟩ = some (.int .i64 (md i))
theorem Mds.below {w w' : World} {a : Option Addr} {n : Nat} {md : Nat → Int} (h : Mds w a n md) (u : Below w.heap.size w w') : Mds w' a n md := fun i hi => by
  obtain ⟨b, off, e, hc⟩ := h i hi
  exact ⟨b, off, e, (u.cell (p := ⟨b, off + i, none⟩) (lt_of_cell hc)).trans hc⟩
/-- All of them modes? -/
def mdB (md : Nat → Int) (n : Nat) : Bool := decide (∀ i, i < n → 0 ≤ md i ∧ md i ≤ 15)
theorem mdB_no {md : Nat → Int} {n i : Nat} (hi : i < n) (h : md i < 0 ∨ 15 < md i) : mdB md n = false := decide_eq_false fun k => by have := k i hi; omega
theorem mdB_yes {md : Nat → Int} {n : Nat} (h : ∀ i, i < n → 0 ≤ md i ∧ md i ≤ 15) : mdB md n = true := decide_eq_true h
/-- None of the modes. -/
def nmV (x : Int) : Bool := decide (x < 0 ∨ 15 < x)
theorem no30 (x : Int) (w : World) : Calls Try.prog 30 #[.int .i64 x] w fun e w' => e = .returned (.bool (nmV x)) ∧ w' = w := by
  by_cases h1 : x < 0
  · have hb := hide (show nmV x = true from decide_eq_true (.inl h1))
    go_enter Try.func30, Try.ntmps30
    go_wp2
    go_ret
    exact ⟨ret_bool (unhide hb).symm, rfl⟩
  · by_cases h2 : 15 < x
    · have hb := hide (show nmV x = true from decide_eq_true (.inr h2))
      go_enter Try.func30, Try.ntmps30
      go_wp2
      go_ret
      exact ⟨ret_bool (unhide hb).symm, rfl⟩
    · have hb := hide (show nmV x = false from decide_eq_false (by omega))
      go_enter Try.func30, Try.ntmps30
      go_wp2
      go_ret
      exact ⟨ret_bool (unhide hb).symm, rfl⟩
set_option maxHeartbeats 400000 in
theorem idx46 (a : Option Addr) (n cap : Nat) (md : Nat → Int) (hl : n ≤ 1000000) (w : World) (src : Mds w a n md) :
    Calls Try.prog 46 #[.slice a n cap, .func (.func 30) #[] #[]] w fun e w' => ∃ r : Int, e = .returned (.int .i64 r) ∧ decide (0 ≤ r) = !mdB md n ∧ w' = w := by
  have SRC := hide src
  clear src
  go_enter Try.func46, Try.ntmps46
  go_wp2
  go_loopw [8] (fun i wr => ∃ k : Nat, k ≤ n ∧ i = .int .i64 k ∧ (∀ j, j < k → 0 ≤ md j ∧ md j ≤ 15) ∧ wr = w) (fun i _ => n - (intOf i).toNat)
  case atStart => exact ⟨0, Nat.zero_le _, rfl, fun j hj => by omega, rfl⟩
  case round =>
    obtain ⟨k, hk, rfl, good, rfl⟩ := hrel
    have GOOD := hide good
    clear good
    by_cases hlt : k < n
    · have hlt' : (k : Int) < (n : Int) := by omega
      obtain ⟨b, off, rfl, hcell⟩ := unhide SRC k hlt
      by_cases hx : md k < 0 ∨ 15 < md k
      · have hb : nmV (md k) = true := decide_eq_true hx
        have HX := hide hx
        clear hx
        go_wp2_with (go_at_call 30; refine (no30 (md k) _).mono ?_; rw [hb]; rintro e w1 ⟨rfl, rfl⟩)
        go_ret
        refine ⟨_, rfl, ?_, rfl⟩
        rw [mdB_no hlt (unhide HX)]
        exact decide_eq_true (by omega)
      · have hb : nmV (md k) = false := decide_eq_false hx
        have HX := hide hx
        clear hx
        go_wp2_with (go_at_call 30; refine (no30 (md k) _).mono ?_; rw [hb]; rintro e w1 ⟨rfl, rfl⟩)
        go_roundw
        case rel =>
          refine ⟨k + 1, by omega, by go_num, fun j hj => ?_, by first | rfl | trivial⟩
          by_cases e : j = k
          · subst e
            have := unhide HX
            omega
          · exact unhide GOOD j (by omega)
        case measure => simp [intOf]; omega
    · obtain rfl : k = n := by omega
      go_wp2
      go_ret
      refine ⟨_, rfl, ?_, rfl⟩
      rw [mdB_yes (unhide GOOD)]
      rfl
theorem con29 (a : Option Addr) (n cap : Nat) (md : Nat → Int) (hl : n ≤ 1000000) (w : World) (src : Mds w a n md) :
    Calls Try.prog 29 #[.slice a n cap, .func (.func 30) #[] #[]] w fun e w' => e = .returned (.bool (!mdB md n)) ∧ Below w.heap.size w w' := by
  have SRC := hide src
  clear src
  go_enter Try.func29, Try.ntmps29
  go_wp2_with (go_at_call 46; refine (idx46 a n cap md hl _ (unhide SRC)).mono ?_; rintro e w1 ⟨r, rfl, hr, rfl⟩; have HR := hide hr; clear hr)
  go_ret
  exact ⟨by rw [← unhide HR]; rfl, Below.refl _ _⟩
set_option maxHeartbeats 400000 in
theorem blo19 (W k : Nat) (H : Int) (a a' : Option Addr) (n c m cm : Nat) (w : World) (hW : W ≤ 16384) (hk : k ≤ 9) :
    Calls Try.prog 19 #[.agg #[.int .i64 W, .int .i64 H, .slice a n c], .int .i64 k, .slice a' m cm] w fun e w' => e = .returned (.agg #[.int .i64 k, .int .i64 (bl W k), .slice a' m cm]) ∧ Below w.heap.size w w' := by
  have Q := hide (fun w => blk36 W k w hW hk)
  clear hW hk
  generalize bl W k = q at *
  go_enter Try.func19, Try.ntmps19
  go_wp2_with fail
  refine (unhide Q _).mono ?_
  rintro e w1 ⟨rfl, rfl⟩
  go_wp2
  have s1 : (w.alloc (.cells #[.int .i64 W, .int .i64 H, .slice a n c] 24)).heap.size = w.heap.size + 1 := by simp
  have b1 := Box.made (w.alloc (.cells #[.int .i64 W, .int .i64 H, .slice a n c] 24)) 43 #[.int .i64 k, .int .i64 q, .slice a' m cm]
  rw [s1] at b1
  exact bodyPost_ret (results_cell_row rfl _ _ (w.heap.size + 1) 43 #[.int .i64 k, .int .i64 q, .slice a' m cm] (0, 0) _ rfl b1 Try.underlying43 rfl (by kernel_rfl)) rfl ⟨rfl, ((Below.refl _ _).alloc (Nat.le_refl _) _).alloc (by simp) _⟩
set_option maxHeartbeats 400000 in
theorem fit28 (W H k : Nat) (a a' : Option Addr) (n c m cm : Nat) (w : World) (hW : W ≤ 16384) (hH : H ≤ 16384) (hk : k ≤ 9) :
    Calls Try.prog 28 #[.agg #[.int .i64 k, .int .i64 (bl W k), .slice a' m cm], .agg #[.int .i64 W, .int .i64 H, .slice a n c]] w fun e w' => e = .returned (.bool ((m : Int) == ((bl W k * bl H k : Nat) : Int))) ∧ Below w.heap.size w w' := by
  have M := prod_wrap (Nat.le_trans (bl_le W k) hW) (Nat.le_trans (bl_le H k) hH)
  have Q := hide (fun w => blk36 H k w hH hk)
  clear hW hH hk
  generalize bl W k = p at *
  generalize bl H k = q at *
  generalize p * q = r at *
  go_enter Try.func28, Try.ntmps28
  go_wp2_with fail
  go_quiet ((go_at_call 36; exact Calls.quiet_of_same (unhide Q _)))
  go_wp2
  go_ret
  exact ⟨rfl, below_drew (((Below.refl _ w).alloc (Nat.le_refl _) _).alloc (by simp) _) _⟩
set_option maxHeartbeats 400000 in
theorem ofI (X Y k q p x y s m cm mb mo : Nat) (v : Int) (w : World) (hk : k ≤ 9) (hp : (2 : Int) ^ k = (s : Int)) (hs : 0 < s) (ex : (X : Int) / (s : Int) = (x : Int)) (ey : (Y : Int) / (s : Int) = (y : Int)) (M : IntKind.i64.wrap ((y : Int) * (q : Int)) = (p : Int)) (hx : x ≤ 16384) (hy : y ≤ 16384) (hpb : p ≤ 268435456) (hm : p + x < m)
    (hb : mb < w.heap.size) (hc : w.cell? ⟨mb, mo + (p + x), none⟩ = some (.int .i64 v)) :
    Calls Try.prog 37 #[.agg #[.int .i64 k, .int .i64 q, .slice (some ⟨mb, mo, none⟩) m cm], .int .i64 X, .int .i64 Y] w fun e w' => e = .returned (.int .i64 v) ∧ Below w.heap.size w w' := by
  go_enter Try.func37, Try.ntmps37
  go_wp2_with fail
  go_quiet (fail)
  go_wp2
  go_ret
  exact ⟨rfl, below_drew ((Below.refl _ w).alloc (Nat.le_refl _) _) _⟩
theorem ediv_nat (a b : Nat) : (a : Int) / (b : Int) = ((a / b : Nat) : Int) := rfl
theorem of37 {W H k X Y m mb mo : Nat} (cm : Nat) {md : Nat → Int} {w : World} (src : Mds w (some ⟨mb, mo, none⟩) m md) (hm : m = bl W k * bl H k) (hW : W ≤ 16384) (hH : H ≤ 16384) (hk : k ≤ 9) (hx : X < W) (hy : Y < H) :
    Calls Try.prog 37 #[.agg #[.int .i64 k, .int .i64 (bl W k), .slice (some ⟨mb, mo, none⟩) m cm], .int .i64 X, .int .i64 Y] w fun e w' => e = .returned (.int .i64 (md (bk W k X Y))) ∧ Below w.heap.size w w' := by
  have h1 := div_le_side (k := k) hx hW
  have h2 := div_le_side (k := k) hy hH
  have h3 := Nat.le_trans (bl_le W k) hW
  have h4 : bk W k X Y < m := by rw [hm]; exact bk_lt k hx hy
  obtain ⟨b, off, e, hc⟩ := src _ h4
  cases e
  exact ofI X Y k (bl W k) (Y / 2 ^ k * bl W k) (X / 2 ^ k) (Y / 2 ^ k) (2 ^ k) m cm mb mo _ w hk (pow_cast k).symm (pow_pos k) (ediv_nat _ _) (ediv_nat _ _) (prod_wrap h2 h3) h1 h2 (Nat.mul_le_mul h2 h3) h4 (lt_of_cell hc) hc
end Go.Proofs.Ytnfokdcoelignaa.LMod
