/- Contracts: table.Bits, mayBe, width, place, number, togetherOf; the document's Pack. Conditions: bits are at most 3, sides at most 16384. -/
import Derived.Test.YtflmlbdcjjldgaaTNum
import Derived.Test.YtflmlbdcjjldgaaPPrt
import Derived.Test.YtflmlbdcjjldgaaIms
import Derived.OwnWalk
import Derived.BigQuiet
namespace Go.Proofs.Ytflmlbdcjjldgaa.TLea
set_option linter.unusedVariables false
open Go.ChangeShapes Go.WideShapes Go.ChangeAt Go.RowKit Go.Sort Go.Proofs.Ytflmlbdcjjldgaa.Core Go.Proofs.Ytflmlbdcjjldgaa.LBlk Go.Proofs.Ytflmlbdcjjldgaa.PNum Go.Proofs.Ytflmlbdcjjldgaa.PPrt Go.Proofs.Ytflmlbdcjjldgaa.Ims Go.Proofs.Ytflmlbdcjjldgaa.TNum

theorem bits13 (n : Int) (w : World) : Calls Try.prog 13 #[.int .i64 n] w fun e w' => e = .returned (.int .i64 (bvI n)) ∧ w' = w := by
  go_enter Try.func13, Try.ntmps13
  go_wp2
  all_goals go_ret
  all_goals (refine ⟨ret_int ?_, rfl⟩; unfold bvI; (repeat' split) <;> omega)
theorem rpack14 (n : Int) (w : World) : Calls Try.prog 14 #[.int .i64 n] w fun e w' => e = .returned (.int .i64 (bvI n)) ∧ w' = w := by
  go_enter Try.func14, Try.ntmps14
  go_wp2
  all_goals go_ret
  all_goals (refine ⟨ret_int ?_, rfl⟩; unfold bvI; (repeat' split) <;> omega)
/-- Whether there may be a table of so many. -/
def tbV (n : Nat) : Bool := decide (1 ≤ n ∧ n ≤ 256)
theorem tbV_yes {n : Nat} (h : 1 ≤ n) (k : n ≤ 256) : tbV n = true := decide_eq_true ⟨h, k⟩
theorem tbV_no {n : Nat} (h : n < 1 ∨ 256 < n) : tbV n = false := decide_eq_false (by omega)
theorem maybe30 (a : Option Addr) (n c : Nat) (w : World) : Calls Try.prog 30 #[.slice a n c] w fun e w' => e = .returned (.bool (tbV n)) ∧ w' = w := by
  by_cases h0 : 1 ≤ n
  · have h0' : (1 : Int) ≤ (n : Int) := by omega
    by_cases h1 : n ≤ 256
    · have h1' : (n : Int) ≤ 256 := by omega
      have E := hide (tbV_yes h0 h1)
      go_enter Try.func30, Try.ntmps30
      go_wp2
      go_ret
      exact ⟨ret_bool (unhide E).symm, rfl⟩
    · have h1' : ¬ (n : Int) ≤ 256 := by omega
      have E := hide (tbV_no (n := n) (by omega))
      go_enter Try.func30, Try.ntmps30
      go_wp2
      go_ret
      exact ⟨ret_bool (unhide E).symm, rfl⟩
  · have h0' : ¬ (1 : Int) ≤ (n : Int) := by omega
    have E := hide (tbV_no (n := n) (by omega))
    go_enter Try.func30, Try.ntmps30
    go_wp2
    go_ret
    exact ⟨ret_bool (unhide E).symm, rfl⟩
theorem width45 (b : Nat) (x : Int) (w : World) (hb : b ≤ 3) : Calls Try.prog 45 #[.agg #[.int .i64 b, .int .i64 x]] w fun e w' => e = .returned (.int .i64 (sz b)) ∧ Below w.heap.size w w' := by
  rcases four_b hb with rfl | rfl | rfl | rfl
  all_goals
    go_enter Try.func45, Try.ntmps45
    go_wp2
    go_ret
    exact ⟨rfl, bel_a1 _ _⟩
theorem and_mod {x m b : Nat} (hx : x < 1073741824) (hm : m + 1 = 2 ^ b) (hb : b ≤ 20) : bits .and .i64 (x : Int) (m : Int) = ((x % 2 ^ b : Nat) : Int) := by
  have hp : 2 ^ b ≤ 2 ^ 20 := Nat.pow_le_pow_right (by omega) hb
  have em : m = 2 ^ b - 1 := by omega
  show IntKind.i64.wrap ((BitVec.ofInt 64 (x : Int) &&& BitVec.ofInt 64 (m : Int)).toNat : Int) = _
  rw [BitVec.toNat_and, BitVec.ofInt_natCast, BitVec.ofInt_natCast, BitVec.toNat_ofNat, BitVec.toNat_ofNat, Nat.mod_eq_of_lt (by omega : x < 2 ^ 64), Nat.mod_eq_of_lt (by omega : m < 2 ^ 64), em, Nat.and_two_pow_sub_one_eq_mod]
  have : x % 2 ^ b ≤ x := Nat.mod_le _ _
  generalize x % 2 ^ b = r at *
  simp [IntKind.wrap, IntKind.bits, IntKind.signed]
  omega
theorem shl_pow (b : Nat) : (2 : Int) ^ b - 1 = ((2 ^ b - 1 : Nat) : Int) := by
  have := Nat.two_pow_pos b
  rw [Int.ofNat_sub (by omega)]
  simp
set_option maxHeartbeats 1600000 in
theorem place34 (b x y d : Nat) (w : World) (hb : b ≤ 3) (hx : x ≤ 16384) (hy : y ≤ 16384) (hd : d ≤ 16384) :
    Calls Try.prog 34 #[.agg #[.int .i64 b, .int .i64 d], .int .i64 x, .int .i64 y] w fun e w' =>
      e = .returned (.tuple #[.int .i64 (y * d + x / 2 ^ b : Nat), .int .i64 (x % 2 ^ b * sz b : Nat)]) ∧ Below w.heap.size w w' := by
  have M := prod_wrap hy hd
  have hyd : y * d ≤ 268435456 := Nat.mul_le_mul hy hd
  obtain ⟨m, hm⟩ : ∃ m : Nat, m = y * d := ⟨_, rfl⟩
  rw [← hm] at M hyd ⊢
  clear hm
  have hp : 2 ^ b ≤ 8 := Nat.pow_le_pow_right (j := 3) (by omega) hb
  have hp0 : 0 < 2 ^ b := Nat.two_pow_pos b
  have A := and_mod (x := x) (m := 2 ^ b - 1) (b := b) (by omega) (by omega) (by omega)
  have e2 : (2 : Int) ^ b = ((2 ^ b : Nat) : Int) := by simp
  have L1 : x % 2 ^ b < 8 := by have := Nat.mod_lt x hp0; omega
  have W := hide (fun w1 => width45 b (d : Int) w1 hb)
  have hs := sz_pos hb
  obtain ⟨q, hq⟩ : ∃ q : Nat, q = x / 2 ^ b := ⟨_, rfl⟩
  have hq16 : q ≤ 16384 := by rw [hq]; exact Nat.le_trans (Nat.div_le_self _ _) hx
  have hqI : (x : Int) / (2 ^ b : Nat) = (q : Int) := by rw [hq]; rfl
  rw [← hq]
  clear hq
  generalize x % 2 ^ b = r at *
  generalize 2 ^ b = p at *
  obtain ⟨p1, hp1⟩ : ∃ p1 : Nat, p = p1 + 1 := ⟨p - 1, by omega⟩
  have hpI : (p : Int) - 1 = (p1 : Int) := by omega
  rw [show p - 1 = p1 by omega] at A
  have HP := hide hp1
  clear hp1
  generalize sz b = s at *
  have rs : (r : Int) * (s : Int) = ((r * s : Nat) : Int) := by simp
  have rs1 : r * s ≤ 64 := Nat.mul_le_mul (by omega : r ≤ 8) (by omega : s ≤ 8)
  generalize r * s = t at *
  have hbI : (b : Int) ≤ 3 := by omega
  have BXH := hide (Box.made w 56 #[.int .i64 b, .int .i64 d])
  have BL := hide (bel_a1 w (.cells #[.int .i64 b, .int .i64 d] 56))
  go_enter Try.func34, Try.ntmps34
  go_wp2_with fail
  have c0 : (w.alloc (.cells #[.int .i64 b, .int .i64 d] 56)).cell? ⟨w.heap.size, 0, none⟩ = some (.int .i64 b) := ((unhide BXH).cell 0).trans rfl
  have c1 : (w.alloc (.cells #[.int .i64 b, .int .i64 d] 56)).cell? ⟨w.heap.size, 1, none⟩ = some (.int .i64 d) := ((unhide BXH).cell 1).trans rfl
  generalize w.alloc (.cells #[.int .i64 b, .int .i64 d] 56) = w1 at *
  have k0 := cell_regrown c0
  have k1 := cell_regrown c1
  have q1 : ∀ dd os, Calls Try.prog 45 #[.agg #[.int .i64 b, .int .i64 d]] (grow (redrawn w1 dd) os) fun e w'' => e = .returned (.int .i64 s) ∧ ∃ p : Regrown, w'' = grow (redrawn w1 p.d) p.os := fun dd os => Calls.regrown_of (unhide W _)
  have Q1 := hide q1
  clear q1 W c0 c1
  refine wp_region_quiet_below (by kernel_rfl) (by kernel_rfl) ?_
  repeat (go_big_quiet_step (first | (go_at_call 45; with_reducible exact unhide Q1 _ _)))
  refine wpQuiet_nil ?_
  intro _ hw'
  obtain ⟨⟨dq, osq⟩, hw''⟩ := hw'
  subst hw''
  go_wp2
  go_ret2
  exact ⟨rfl, below_two (unhide BL) (below_regrown w1 dq osq)⟩
set_option maxHeartbeats 1600000 in
theorem number37 (b p low d : Nat) (w : World) (hb : b ≤ 3) (hl : low ≤ 7) :
    Calls Try.prog 37 #[.agg #[.int .i64 b, .int .i64 d], .int .u32 p, .int .i64 low] w fun e w' =>
      e = .returned (.int .i64 (pt p 2 / 2 ^ low % 2 ^ sz b : Nat)) ∧ Below w.heap.size w w' := by
  have W := hide (fun w1 => width45 b (d : Int) w1 hb)
  have PP := hide (fun w1 => parts8 p w1)
  have hs := sz_pos hb
  have hg : pt p 2 < 256 := pt_lt p 2
  have e2 : (2 : Int) ^ low = ((2 ^ low : Nat) : Int) := by simp
  have e3 : (2 : Int) ^ sz b = ((2 ^ sz b : Nat) : Int) := by simp
  have hp3 : 2 ^ sz b ≤ 256 := Nat.pow_le_pow_right (j := 8) (by omega) hs.2
  have hp2 : 2 ^ low ≤ 128 := Nat.pow_le_pow_right (j := 7) (by omega) hl
  have hp0 : 0 < 2 ^ sz b := Nat.two_pow_pos _
  obtain ⟨q, hq⟩ : ∃ q : Nat, q = pt p 2 / 2 ^ low := ⟨_, rfl⟩
  have hq2 : q < 256 := by rw [hq]; exact Nat.lt_of_le_of_lt (Nat.div_le_self _ _) hg
  have hqI : ((pt p 2 : Nat) : Int) / ((2 ^ low : Nat) : Int) = (q : Int) := by rw [hq]; rfl
  have A := and_mod (x := q) (m := 2 ^ sz b - 1) (b := sz b) (by omega) (by omega) (by omega)
  rw [← hq]
  clear hq
  have hr : q % 2 ^ sz b < 256 := by have := Nat.mod_lt q hp0; omega
  generalize q % 2 ^ sz b = r at *
  generalize 2 ^ sz b = p3 at *
  generalize 2 ^ low = p2 at *
  obtain ⟨p1, hp1⟩ : ∃ p1 : Nat, p3 = p1 + 1 := ⟨p3 - 1, by omega⟩
  have hpI : (p3 : Int) - 1 = (p1 : Int) := by omega
  rw [show p3 - 1 = p1 by omega] at A
  have HP := hide hp1
  clear hp1
  have hlI : (low : Int) ≤ 7 := by omega
  have hsI : ((sz b : Nat) : Int) ≤ 8 := by omega
  generalize sz b = s at *
  have BXH := hide (Box.made w 56 #[.int .i64 b, .int .i64 d])
  have BL := hide (bel_a1 w (.cells #[.int .i64 b, .int .i64 d] 56))
  generalize pt p 2 = gg at *
  go_enter Try.func37, Try.ntmps37
  go_wp2_with (go_at_call 46; refine (unhide PP _).mono ?_; rintro e w' ⟨rfl, rfl⟩)
  have c0 : (w.alloc (.cells #[.int .i64 b, .int .i64 d] 56)).cell? ⟨w.heap.size, 0, none⟩ = some (.int .i64 b) := ((unhide BXH).cell 0).trans rfl
  have c1 : (w.alloc (.cells #[.int .i64 b, .int .i64 d] 56)).cell? ⟨w.heap.size, 1, none⟩ = some (.int .i64 d) := ((unhide BXH).cell 1).trans rfl
  generalize w.alloc (.cells #[.int .i64 b, .int .i64 d] 56) = w1 at *
  have k0 := cell_regrown c0
  have k1 := cell_regrown c1
  have q1 : ∀ dd os, Calls Try.prog 45 #[.agg #[.int .i64 b, .int .i64 d]] (grow (redrawn w1 dd) os) fun e w'' => e = .returned (.int .i64 s) ∧ ∃ p : Regrown, w'' = grow (redrawn w1 p.d) p.os := fun dd os => Calls.regrown_of (unhide W _)
  have Q1 := hide q1
  clear q1 W c0 c1
  refine wp_region_quiet_below (by kernel_rfl) (by kernel_rfl) ?_
  repeat (go_big_quiet_step (first | (go_at_call 45; with_reducible exact unhide Q1 _ _)))
  refine wpQuiet_nil ?_
  intro _ hw'
  obtain ⟨⟨dq, osq⟩, hw''⟩ := hw'
  subst hw''
  go_wp2
  go_ret
  exact ⟨rfl, below_two (unhide BL) (below_regrown w1 dq osq)⟩
set_option maxHeartbeats 800000 in
theorem together32 (x n : Nat) (a : Option Addr) (c : Nat) (w : World) (hx : x ≤ 16384) :
    Calls Try.prog 32 #[.int .i64 x, .slice a n c] w fun e w' => e = .returned (.agg #[.int .i64 (bv n), .int .i64 (bl x (bv n))]) ∧ Below w.heap.size w w' := by
  have B1 := hide (fun w1 => bits13 (n : Int) w1)
  have hb := bv_le (n : Int)
  have K1 := hide (fun w1 => blk36 x (bvI (n : Int)) w1 hx (by omega))
  have E : bv n = bvI (n : Int) := rfl
  rw [E]
  generalize bvI (n : Int) = b at *
  generalize bl x b = y at *
  go_enter Try.func32, Try.ntmps32
  go_wp2_with (first | (go_at_call 13; refine (unhide B1 _).mono ?_; rintro e w' ⟨rfl, rfl⟩) | (go_at_call 44; refine (unhide K1 _).mono ?_; rintro e w' ⟨rfl, rfl⟩))
  refine bodyPost_ret (results_cell_row rfl _ _ w.heap.size 56 #[.int .i64 b, .int .i64 y] (0, 0) _ rfl (Box.made w 56 _) Try.underlying56 rfl (by kernel_rfl)) rfl ⟨rfl, bel_a1 _ _⟩
theorem box3 {w : World} {g : Nat} {a b c x y s : Value} (h : Box w g 24 #[a, b, c]) : Box (((w.setCell ⟨g, 0, none⟩ x).setCell ⟨g, 1, none⟩ y).setCell ⟨g, 2, none⟩ s) g 24 #[x, y, s] := ((h.set 0 x).set 1 y).set 2 s
theorem below3 {B : Nat} {w wr : World} {g : Nat} {x y s : Value} (h : Below B w wr) (hg : B ≤ g) : Below B w (((wr.setCell ⟨g, 0, none⟩ x).setCell ⟨g, 1, none⟩ y).setCell ⟨g, 2, none⟩ s) :=
  ((h.setCell (p := ⟨g, 0, none⟩) hg x).setCell (p := ⟨g, 1, none⟩) hg y).setCell (p := ⟨g, 2, none⟩) hg s
theorem row_const (n p : Nat) (f : Nat → Nat) (h : ∀ i, i < n → f i = p) : CNum.row f n = CNum.row (fun _ => p) n := CNum.row_ext (CNum.row_size f n) fun j hj => by rw [CNum.row_at f n j hj, h j hj]
set_option maxHeartbeats 1600000 in
theorem image33 (x y n p : Nat) (w : World) (hn : n = x * y) (h1 : x ≤ 16384) (h2 : y ≤ 16384) (h0 : 0 < n) (h3 : n ≤ 1000000) :
    Calls Try.prog 33 #[.int .i64 x, .int .i64 y, .int .u32 p] w fun e w' =>
      ∃ g, e = .returned (.agg #[.int .i64 x, .int .i64 y, .slice (some ⟨g, 0, none⟩) n n]) ∧ Gives w n g (fun _ => p) w' := by
  have M := prod_wrap h1 h2
  rw [← hn] at M
  have hmk := CNum.make_row (n := n) (hn := h3)
  clear hn
  obtain ⟨s0, hs0⟩ : ∃ s0, s0 = w.heap.size := ⟨_, rfl⟩
  have T := three_boxes (w.alloc (.cells #[.int .i64 0, .int .i64 0, .slice none 0 0] 24)) (CNum.row (fun _ => 0) n) #[.int .i64 x, .int .i64 y, .slice (some ⟨w.heap.size + 1, 0, none⟩) n n] #[] 31 24 31
  have B0 := hide (show Box (((w.alloc (.cells #[.int .i64 0, .int .i64 0, .slice none 0 0] 24)).alloc (.cells (CNum.row (fun _ => 0) n) 31)).alloc (.cells #[.int .i64 x, .int .i64 y, .slice (some ⟨w.heap.size + 1, 0, none⟩) n n] 24)) w.heap.size 24 #[.int .i64 0, .int .i64 0, .slice none 0 0] from ((Box.made w 24 _).alloc _).alloc _)
  have T2 := two_boxes (w.alloc (.cells #[.int .i64 0, .int .i64 0, .slice none 0 0] 24)) (CNum.row (fun _ => 0) n) #[.int .i64 x, .int .i64 y, .slice (some ⟨w.heap.size + 1, 0, none⟩) n n] 31 24
  rw [show (w.alloc (.cells #[.int .i64 0, .int .i64 0, .slice none 0 0] 24)).heap.size = w.heap.size + 1 by simp] at T2
  have TT := hide T2
  have BL := hide (bel_a3 w (.cells #[.int .i64 0, .int .i64 0, .slice none 0 0] 24) (.cells (CNum.row (fun _ => 0) n) 31) (.cells #[.int .i64 x, .int .i64 y, .slice (some ⟨w.heap.size + 1, 0, none⟩) n n] 24))
  clear T T2 hs0
  go_enter Try.func33, Try.ntmps33
  go_wp2
  go_loopw [19] (fun v wr => ∃ j : Nat, v = .int .i64 j ∧ j ≤ n ∧ Box wr w.heap.size 24 #[.int .i64 0, .int .i64 0, .slice none 0 0] ∧ Box wr (w.heap.size + 1) 31 (CNum.row (fun i => if i < j then p else 0) n) ∧ Box wr (w.heap.size + 1 + 1) 24 #[.int .i64 x, .int .i64 y, .slice (some ⟨w.heap.size + 1, 0, none⟩) n n] ∧ Below w.heap.size w wr) (fun v _ => n - (intOf v).toNat)
  case atStart => exact ⟨0, rfl, Nat.zero_le _, unhide B0, (unhide TT).1, (unhide TT).2, unhide BL⟩
  case round =>
    clear B0 TT BL
    obtain ⟨j, rfl, hj, b0, b1, b2, bl⟩ := hrel
    have c2 : wr.cell? ⟨w.heap.size + 1 + 1, 2, none⟩ = some (.slice (some ⟨w.heap.size + 1, 0, none⟩) n n) := (b2.cell 2).trans rfl
    by_cases hlt : j < n
    · have hlt' : (j : Int) < (n : Int) := by omega
      have c1 : wr.cell? ⟨w.heap.size + 1, j, none⟩ = some (.int .u32 (if j < j then p else 0 : Nat)) := (b1.cell j).trans (CNum.row_at _ _ _ hlt)
      have f1 : wr.frozen? ⟨w.heap.size + 1, j, none⟩ = false := b1.free j
      have H0 := hide b0
      have H1 := hide b1
      have H2 := hide b2
      have HL := hide bl
      clear b0 b1 b2 bl
      go_wp2
      go_roundw
      case rel =>
        refine ⟨j + 1, by go_num, by omega, (unhide H0).other (p := ⟨w.heap.size + 1, j, none⟩) (by simp) _, ?_, (unhide H2).other (p := ⟨w.heap.size + 1, j, none⟩) (by simp) _, (unhide HL).setCell (p := ⟨w.heap.size + 1, j, none⟩) (by simp) _⟩
        have := (unhide H1).set j (.int .u32 (p : Nat))
        rw [CNum.row_set] at this
        have e : CNum.row (CNum.upd (fun i => if i < j then p else 0) j p) n = CNum.row (fun i => if i < j + 1 then p else 0) n := by
          refine CNum.row_ext (CNum.row_size _ n) fun i hi => ?_
          rw [CNum.row_at _ _ _ hi]
          unfold CNum.upd
          by_cases e : i = j
          · subst e; simp
          · simp only [if_neg e]
            by_cases e2 : i < j
            · simp [e2, show i < j + 1 by omega]
            · simp [e2, show ¬ i < j + 1 by omega]
        rw [← e]
        exact this
      case measure => simp [intOf]; omega
    · obtain rfl : j = n := by omega
      have c0 : wr.cell? ⟨w.heap.size + 1 + 1, 0, none⟩ = some (.int .i64 x) := (b2.cell 0).trans rfl
      have c1 : wr.cell? ⟨w.heap.size + 1 + 1, 1, none⟩ = some (.int .i64 y) := (b2.cell 1).trans rfl
      obtain ⟨⟨d0, d1, d2⟩, e0, e1, e2⟩ := box_cells b0
      have H0 := hide b0
      have H1 := hide b1
      have HL := hide bl
      clear b0 b1 b2 bl
      go_wp2
      have B3 := box3 (x := .int .i64 x) (y := .int .i64 y) (s := .slice (some ⟨w.heap.size + 1, 0, none⟩) j j) (unhide H0)
      refine bodyPost_ret (results_cell_row rfl _ _ w.heap.size 24 #[.int .i64 x, .int .i64 y, .slice (some ⟨w.heap.size + 1, 0, none⟩) j j] (0, 0) _ rfl B3 Try.underlying24 rfl (by kernel_rfl)) rfl ⟨w.heap.size + 1, rfl, ?_, by omega, below3 (unhide HL) (Nat.le_refl _)⟩
      refine Pow.congr (z := fun i => if i < j then p else 0) (pow_row _ ?_) fun i hi => if_pos hi
      exact (((unhide H1).other (p := ⟨w.heap.size, 0, none⟩) (by simp) _).other (p := ⟨w.heap.size, 1, none⟩) (by simp) _).other (p := ⟨w.heap.size, 2, none⟩) (by simp) _
end Go.Proofs.Ytflmlbdcjjldgaa.TLea
