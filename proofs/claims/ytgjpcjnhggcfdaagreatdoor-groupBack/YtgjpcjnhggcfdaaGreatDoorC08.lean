/-
  Numbers alone: lengths of which one or two are not 0; a row of numbers as a slice. Conditions: as each says.
  Contracts: group.Sizes, places, isWidth, the document's Sizes. Conditions: the cache may be.
  Contracts: group.fits where each code has as many lengths as it must have. Conditions: the cache may be.
  Contract: the law's five (lengths of a group, one symbol each). Conditions: the cache may be.
-/
import Derived.Test.YtgjpcjnhggcfdaaGreatDoorC07
import Derived.Test.YtgjpcjnhggcfdaaGreatDoorC02
import Derived.Laws.StructEq
import Derived.Laws.ResultCell
import Derived.Deep.CutRange
namespace Go.Proofs.YtgjpcjnhggcfdaaGreatDoor.Sml
open Go.ChangeShapes Go.WideShapes Go.ChangeAt Go.RowKit Go.Proofs.YtgjpcjnhggcfdaaGreatDoor.Core Go.Proofs.YtgjpcjnhggcfdaaGreatDoor.Gnd Go.Proofs.YtgjpcjnhggcfdaaGreatDoor.Math Go.Proofs.YtgjpcjnhggcfdaaGreatDoor.Dec Go.Proofs.YtgjpcjnhggcfdaaGreatDoor.Ord

def f1 (i m k : Nat) : Nat := if k = i then m else 0
def c1 (i m k : Nat) : Int := (f1 i m k : Int)
def f2 (i j k : Nat) : Nat := if k = i ∨ k = j then 1 else 0
def c2 (i j k : Nat) : Int := (f2 i j k : Int)
theorem c1_at (i m : Nat) : c1 i m i = (m : Int) := by simp [c1, f1]
theorem c1_no (i m : Nat) {k : Nat} (h : k ≠ i) : c1 i m k = 0 := by simp [c1, f1, h]
theorem many1 (i m : Nat) (hm : m ≠ 0) : ∀ n, many (c1 i m) n = if i < n then 1 else 0
  | 0 => by simp [many]
  | n + 1 => by
    have ih := many1 i m hm n
    have hs : many (c1 i m) (n + 1) = many (c1 i m) n + if c1 i m n = 0 then 0 else 1 := rfl
    rw [hs, ih]
    by_cases e : n = i
    · subst e
      rw [c1_at, if_neg (by omega), if_neg (by omega), if_pos (by omega)]
    · rw [if_pos (c1_no i m e)]
      by_cases h : i < n
      · rw [if_pos h, if_pos (by omega)]
      · rw [if_neg h, if_neg (by omega)]
theorem sel1' (i m : Nat) (hm : m ≠ 0) : ∀ n, i < n → sel (c1 i m) n = i
  | 0, h => by omega
  | n + 1, h => by
    have hs : sel (c1 i m) (n + 1) = if c1 i m n = 0 then sel (c1 i m) n else n := rfl
    rw [hs]
    by_cases e : n = i
    · subst e
      rw [c1_at, if_neg (by omega)]
    · rw [if_pos (c1_no i m e)]
      exact sel1' i m hm n (by omega)
theorem rng1 (i m : Nat) (hm : m ≤ 15) (n : Nat) : Rng (c1 i m) n := fun k _ => by
  unfold c1 f1
  split <;> omega
theorem chk1 (i m n : Nat) (h0 : m ≠ 0) (h1 : m ≤ 15) (hi : i < n) : chk (c1 i m) n = 0 := by
  unfold chk
  rw [if_pos ((rngB_iff _ _).2 (rng1 i m h1 n)), if_pos (.inl (by rw [many1 i m h0 n, if_pos hi]))]
theorem c2_at (i j : Nat) {k : Nat} (h : k = i ∨ k = j) : c2 i j k = 1 := by simp [c2, f2, h]
theorem c2_no (i j : Nat) {k : Nat} (h : ¬ (k = i ∨ k = j)) : c2 i j k = 0 := by simp [c2, f2, h]
theorem kr2 (i j : Nat) (hij : i ≠ j) : ∀ n, kr (c2 i j) n = (if i < n then 16384 else 0) + (if j < n then 16384 else 0) ∧ many (c2 i j) n = (if i < n then 1 else 0) + (if j < n then 1 else 0)
  | 0 => by simp [many, kr]
  | n + 1 => by
    obtain ⟨h1, h2⟩ := kr2 i j hij n
    have s1 : kr (c2 i j) (n + 1) = kr (c2 i j) n + pt2 (c2 i j n) := rfl
    have s2 : many (c2 i j) (n + 1) = many (c2 i j) n + if c2 i j n = 0 then 0 else 1 := rfl
    rw [s1, s2, h1, h2]
    have p1 : pt2 1 = 16384 := by decide
    have p0 : pt2 0 = 0 := by decide
    by_cases e : n = i
    · rw [c2_at i j (.inl e), p1]
      have a1 : ¬ i < n := by omega
      have a2 : i < n + 1 := by omega
      by_cases hj : j < n
      · simp [a1, a2, hj, show j < n + 1 by omega]
      · simp [a1, a2, hj, show ¬ j < n + 1 by omega]
    · by_cases e2 : n = j
      · rw [c2_at i j (.inr e2), p1]
        have a1 : ¬ j < n := by omega
        have a2 : j < n + 1 := by omega
        by_cases hj : i < n
        · simp [a1, a2, hj, show i < n + 1 by omega]
        · simp [a1, a2, hj, show ¬ i < n + 1 by omega]
      · rw [c2_no i j (by omega), p0]
        by_cases hi : i < n <;> by_cases hj : j < n
        · simp [hi, hj, show i < n + 1 by omega, show j < n + 1 by omega]
        · simp [hi, hj, show i < n + 1 by omega, show ¬ j < n + 1 by omega]
        · simp [hi, hj, show ¬ i < n + 1 by omega, show j < n + 1 by omega]
        · simp [hi, hj, show ¬ i < n + 1 by omega, show ¬ j < n + 1 by omega]
theorem rng2 (i j n : Nat) : Rng (c2 i j) n := fun k _ => by
  unfold c2 f2
  split <;> omega
theorem chk2 (i j n : Nat) (hij : i ≠ j) (hi : i < n) (hj : j < n) : chk (c2 i j) n = 0 ∧ many (c2 i j) n ≠ 1 := by
  obtain ⟨h1, h2⟩ := kr2 i j hij n
  rw [if_pos hi, if_pos hj] at h1 h2
  refine ⟨?_, by omega⟩
  unfold chk
  rw [if_pos ((rngB_iff _ _).2 (rng2 i j n)), if_pos (.inr (by omega))]
theorem ints_row {w : World} {g n : Nat} {f : Nat → Nat} (h : Box w g 3 (nr f n).toArray) : Ints .i64 w (.slice (some ⟨g, 0, none⟩) n n) n (fun k => (f k : Int)) :=
  ⟨_, _, rfl, fun i hi => ⟨g, 0, rfl, by rw [h.cell, Nat.zero_add, na_at _ _ _ hi]⟩⟩
theorem row_put {w : World} {g n : Nat} {f : Nat → Nat} (h : Box w g 3 (nr f n).toArray) (i z : Nat) (zi : Int) (hz : zi = (z : Int)) (f' : Nat → Nat) (hf : ∀ k, k < n → (if k = i then z else f k) = f' k) : Box (w.setCell ⟨g, i, none⟩ (.int .i64 zi)) g 3 (nr f' n).toArray := by
  subst hz
  have := h.set i (.int .i64 z)
  rw [na_set, na_congr hf] at this
  exact this
end Go.Proofs.YtgjpcjnhggcfdaaGreatDoor.Sml

namespace Go.Proofs.YtgjpcjnhggcfdaaGreatDoor.HSiz
set_option linter.unusedVariables false
open Go.ChangeShapes Go.WideShapes Go.ChangeAt Go.RowKit Go.Proofs.YtgjpcjnhggcfdaaGreatDoor.Core Go.Proofs.YtgjpcjnhggcfdaaGreatDoor.HNum

theorem pow_cast (b : Nat) : (2 : Int) ^ b = ((2 ^ b : Nat) : Int) := by simp
theorem bel_a1 (w : World) (o : Obj) : Below w.heap.size w (w.alloc o) := (Below.refl _ w).alloc (Nat.le_refl _) o
theorem bel_dr {B : Nat} {w w1 : World} (h : Below B w w1) : Below B w w1.drew := ⟨h.os, h.tape, h.output, h.size, h.block⟩
theorem bel_drN {B : Nat} {w w1 : World} (h : Below B w w1) (n : Nat) : Below B w (w1.drewN n) := ⟨h.os, h.tape, h.output, h.size, h.block⟩
theorem bel_into {w0 a b : World} (h : Below w0.heap.size w0 a) (k : Below a.heap.size a b) : Below w0.heap.size w0 b := h.trans (k.mono h.size)
theorem bel_next {B : Nat} {w0 a b : World} (h : Below B w0 a) (k : Below a.heap.size a b) (hB : B ≤ a.heap.size) : Below B w0 b := h.trans (k.mono hB)
set_option maxHeartbeats 400000 in
theorem sizes14 (c : Nat) (h : c ≤ 11) (w : World) : Calls Tryz.prog 16 #[.int .i64 c] w fun e w' => e = .returned (.agg (fvn (sz c))) ∧ Below w.heap.size w w' := by
  have hci : (c : Int) ≤ 11 := by omega
  by_cases h0 : c = 0
  · subst h0
    go_enter Tryz.func16, Tryz.ntmps16
    go_wp2
    have b1 := (Box.made w 55 #[.int .i64 280, .int .i64 256, .int .i64 256, .int .i64 256, .int .i64 40]).alloc (.cells #[.int .i64 280, .int .i64 256, .int .i64 256, .int .i64 256, .int .i64 40] 55)
    refine bodyPost_ret (results_cell_row rfl _ _ _ 55 _ (0, 0) _ rfl b1 Tryz.underlying55 rfl (by kernel_rfl)) rfl ⟨rfl, ((Below.refl _ w).alloc (Nat.le_refl _) _).alloc (by simp) _⟩
  · have hp : (2 : Int) ^ c = ((pl c : Nat) : Int) := by rw [pl, if_neg h0]; exact pow_cast c
    have hl := pl_le c h
    have hs : ((280 : Int) + ((pl c : Nat) : Int)) = ((sz c 0 : Nat) : Int) := by simp [sz]
    have hs1 : ((sz c 0 : Nat) : Int) ≤ 3000 := by have := (sz_bd c 0 h).2; omega
    have hpos : 0 < (c : Int) := by omega
    have HF := hide (show fvn (sz c) = #[.int .i64 (sz c 0 : Nat), .int .i64 256, .int .i64 256, .int .i64 256, .int .i64 40] from rfl)
    clear h0
    generalize pl c = m at *
    go_enter Tryz.func16, Tryz.ntmps16
    go_wp2
    go_region
    all_goals go_wp2
    all_goals (rw [unhide HF]; generalize hz : sz c 0 = z at *)
    all_goals exact bodyPost_ret (results_cell_row rfl _ _ _ 55 _ (0, 0) _ rfl ((Box.made w 55 #[.int .i64 z, .int .i64 256, .int .i64 256, .int .i64 256, .int .i64 40]).alloc (.cells #[.int .i64 z, .int .i64 256, .int .i64 256, .int .i64 256, .int .i64 40] 55)) Tryz.underlying55 rfl (by kernel_rfl)) rfl ⟨rfl, bel_dr ((bel_a1 w _).alloc (by simp) _)⟩
set_option maxHeartbeats 400000 in
theorem sizes15 (c : Nat) (h : c ≤ 11) (w : World) : Calls Tryz.prog 19 #[.int .i64 c] w fun e w' => e = .returned (.agg (fvn (sz c))) ∧ Below w.heap.size w w' := by
  have hci : (c : Int) ≤ 11 := by omega
  by_cases h0 : c = 0
  · subst h0
    go_enter Tryz.func19, Tryz.ntmps19
    go_wp2
    have b1 := (Box.made w 55 #[.int .i64 280, .int .i64 256, .int .i64 256, .int .i64 256, .int .i64 40]).alloc (.cells #[.int .i64 280, .int .i64 256, .int .i64 256, .int .i64 256, .int .i64 40] 55)
    refine bodyPost_ret (results_cell_row rfl _ _ _ 55 _ (0, 0) _ rfl b1 Tryz.underlying55 rfl (by kernel_rfl)) rfl ⟨rfl, ((Below.refl _ w).alloc (Nat.le_refl _) _).alloc (by simp) _⟩
  · have hp : (2 : Int) ^ c = ((pl c : Nat) : Int) := by rw [pl, if_neg h0]; exact pow_cast c
    have hl := pl_le c h
    have hs : ((280 : Int) + ((pl c : Nat) : Int)) = ((sz c 0 : Nat) : Int) := by simp [sz]
    have hs1 : ((sz c 0 : Nat) : Int) ≤ 3000 := by have := (sz_bd c 0 h).2; omega
    have hpos : 0 < (c : Int) := by omega
    have HF := hide (show fvn (sz c) = #[.int .i64 (sz c 0 : Nat), .int .i64 256, .int .i64 256, .int .i64 256, .int .i64 40] from rfl)
    clear h0
    generalize pl c = m at *
    go_enter Tryz.func19, Tryz.ntmps19
    go_wp2
    all_goals (rw [unhide HF]; generalize hz : sz c 0 = z at *)
    all_goals exact bodyPost_ret (results_cell_row rfl _ _ _ 55 _ (0, 0) _ rfl ((Box.made w 55 #[.int .i64 z, .int .i64 256, .int .i64 256, .int .i64 256, .int .i64 40]).alloc (.cells #[.int .i64 z, .int .i64 256, .int .i64 256, .int .i64 256, .int .i64 40] 55)) Tryz.underlying55 rfl (by kernel_rfl)) rfl ⟨rfl, (bel_a1 w _).alloc (by simp) _⟩
theorem places17 (s : Nat → Nat) (m : Nat) (h : s 0 = 280 + m) (hm : m ≤ 3000) (w : World) : Calls Tryz.prog 18 #[.agg (fvn s)] w fun e w' => e = .returned (.int .i64 m) ∧ Below w.heap.size w w' := by
  have e : ((s 0 : Nat) : Int) - 280 = (m : Int) := by omega
  have hs : ((s 0 : Nat) : Int) ≤ 4000 := by omega
  clear h
  unfold fvn
  generalize s 0 = z at *
  go_enter Tryz.func18, Tryz.ntmps18
  go_wp2
  go_ret
  exact ⟨rfl, (Below.refl _ w).alloc (Nat.le_refl _) _⟩
theorem isw20 (x : Int) (h0 : 1 ≤ x) (h1 : x ≤ 16384) (w : World) : Calls Tryz.prog 34 #[.int .i64 x] w fun e w' => e = .returned (.bool true) ∧ w' = w := by
  go_enter Tryz.func34, Tryz.ntmps34
  go_wp2
  go_ret
  exact ⟨rfl, rfl⟩
theorem eq_gen (n : Nat) (a b c d e : Int) (h : a ≠ 0) (w : World) : (Op.equalIn (n + 1 + 1) 55 (.agg #[.int .i64 a, .int .i64 b, .int .i64 c, .int .i64 d, .int .i64 e]) (.agg #[.int .i64 0, .int .i64 0, .int .i64 0, .int .i64 0, .int .i64 0])).run Tryz.prog w = .ok false w := by
  have e1 : ∀ (w : World), (Op.equalIn (n + 1) 3 (.int .i64 a) (.int .i64 0)).run Tryz.prog w = .ok false w := fun w => by
    rw [run_equalIn_int (h := Tryz.underlying3)]; simp [h]
  rw [Op.equalIn]
  simp only [Sem.run_bind, run_underlying Tryz.underlying55, Result.andThen_ok]
  generalize Op.equalIn (n + 1) = E at *
  simp [go_sem, Std.Legacy.Range.forIn_eq_forIn_range', List.range', e1]
theorem eq_five (a b c d e : Int) (h : a ≠ 0) (w : World) : (Op.equalIn 10000 55 (.agg #[.int .i64 a, .int .i64 b, .int .i64 c, .int .i64 d, .int .i64 e]) (.agg #[.int .i64 0, .int .i64 0, .int .i64 0, .int .i64 0, .int .i64 0])).run Tryz.prog w = .ok false w := eq_gen 9998 a b c d e h w
end Go.Proofs.YtgjpcjnhggcfdaaGreatDoor.HSiz

namespace Go.Proofs.YtgjpcjnhggcfdaaGreatDoor.HFit
set_option linter.unusedVariables false
open Go.ChangeShapes Go.WideShapes Go.ChangeAt Go.RowKit Go.Proofs.YtgjpcjnhggcfdaaGreatDoor.Core Go.Proofs.YtgjpcjnhggcfdaaGreatDoor.HNum Go.Proofs.YtgjpcjnhggcfdaaGreatDoor.HSiz

theorem fv_at (u : Nat → Value) (i : Nat) (h : i < 5) : (fv u)[i]? = some (u i) := by
  rcases lt5 h with rfl | rfl | rfl | rfl | rfl <;> rfl
theorem fvn_at (s : Nat → Nat) (i : Nat) (h : i < 5) : (fvn s)[i]? = some (.int .i64 (s i)) := by
  rcases lt5 h with rfl | rfl | rfl | rfl | rfl <;> rfl
theorem index_fv (u : Nat → Value) (i : Nat) (h : i < 5) (w : World) : (Instr.index 30 (.agg #[u 0, u 1, u 2, u 3, u 4]) (.int .i64 i)).run Tryz.prog w = .ok (u i) w := by
  have h1 : ∀ (v : Array Value) (x : Value), v[i]? = some x → (Instr.index 30 (.agg v) (.int .i64 i)).run Tryz.prog w = .ok x w := by
    intro v x hv
    simp [Instr.index, run_underlying Tryz.underlying30, asIntOf, h, go_sem, hv]
  exact h1 _ _ (fv_at u i h)
theorem index_fvn (s : Nat → Nat) (i : Nat) (h : i < 5) (w : World) : (Instr.index 55 (.agg (fvn s)) (.int .i64 i)).run Tryz.prog w = .ok (.int .i64 (s i)) w := by
  have h1 : ∀ (v : Array Value) (x : Value), v[i]? = some x → (Instr.index 55 (.agg v) (.int .i64 i)).run Tryz.prog w = .ok x w := by
    intro v x hv
    simp [Instr.index, run_underlying Tryz.underlying55, asIntOf, h, go_sem, hv]
  exact h1 _ _ (fvn_at s i h)
/-- Five slices of so many numbers. -/
def sl5 (a : Nat → Option Addr) (n cp : Nat → Nat) (i : Nat) : Value := .slice (a i) (n i) (cp i)
set_option maxHeartbeats 1000000 in
theorem fits16 (a : Nat → Option Addr) (cp : Nat → Nat) (c : Nat) (h : c ≤ 11) (w : World) :
    Calls Tryz.prog 20 #[.agg (fv (sl5 a (sz c) cp)), .int .i64 c] w fun e w' => e = .returned (.bool true) ∧ Below w.heap.size w w' := by
  have S := hide (fun w => sizes14 c h w)
  have IX := hide (index_fv (sl5 a (sz c) cp))
  have h0 : ¬ ((sz c 0 : Nat) : Int) = 0 := by have := (sz_bd c 0 h).1; omega
  have EQ := hide (fun w => eq_five (sz c 0 : Nat) (sz c 1 : Nat) (sz c 2 : Nat) (sz c 3 : Nat) (sz c 4 : Nat) h0 w)
  have FV := hide (fvn_at (sz c))
  clear h h0
  simp only [fv] at *
  unfold fvn at S FV
  go_enter Tryz.func20, Tryz.ntmps20
  go_wp2_with fail
  refine (unhide S _).mono ?_
  rintro e w1 ⟨rfl, b1⟩
  have b0 := (Box.made w 30 #[sl5 a (sz c) cp 0, sl5 a (sz c) cp 1, sl5 a (sz c) cp 2, sl5 a (sz c) cp 3, sl5 a (sz c) cp 4]).below b1 (by simp)
  have x0 : w1.cell? ⟨w.heap.size, 0, none⟩ = some (sl5 a (sz c) cp 0) := b0.cell 0
  have x1 : w1.cell? ⟨w.heap.size, 1, none⟩ = some (sl5 a (sz c) cp 1) := b0.cell 1
  have x2 : w1.cell? ⟨w.heap.size, 2, none⟩ = some (sl5 a (sz c) cp 2) := b0.cell 2
  have x3 : w1.cell? ⟨w.heap.size, 3, none⟩ = some (sl5 a (sz c) cp 3) := b0.cell 3
  have x4 : w1.cell? ⟨w.heap.size, 4, none⟩ = some (sl5 a (sz c) cp 4) := b0.cell 4
  have hlt := b0.lt
  have B1 := hide ((bel_a1 w _).trans (b1.mono (by simp)))
  clear b1 b0
  go_wp2
  have B2 := hide ((unhide B1).alloc (Nat.le_of_lt hlt) (.cells #[.int .i64 (sz c 0 : Nat), .int .i64 (sz c 1 : Nat), .int .i64 (sz c 2 : Nat), .int .i64 (sz c 3 : Nat), .int .i64 (sz c 4 : Nat)] 55))
  have b5 := Box.made w1 55 #[.int .i64 (sz c 0 : Nat), .int .i64 (sz c 1 : Nat), .int .i64 (sz c 2 : Nat), .int .i64 (sz c 3 : Nat), .int .i64 (sz c 4 : Nat)]
  generalize w1.alloc (.cells #[.int .i64 (sz c 0 : Nat), .int .i64 (sz c 1 : Nat), .int .i64 (sz c 2 : Nat), .int .i64 (sz c 3 : Nat), .int .i64 (sz c 4 : Nat)] 55) = w2 at *
  have B5 := hide b5
  clear b5 x0 x1 x2 x3 x4 hlt B1 S
  go_loopw [11] (fun x wr => ∃ i : Nat, i ≤ 5 ∧ x = .int .i64 i ∧ wr = w2) (fun x _ => 5 - (intOf x).toNat)
  case atStart => exact ⟨0, by omega, rfl, rfl⟩
  case round =>
    obtain ⟨i, hi, rfl, rfl⟩ := hrel
    by_cases hlt : i < 5
    · have hlt' : (i : Int) < 5 := by omega
      have ix := unhide IX i hlt
      have c0 := ((unhide B5).cell i).trans (unhide FV i hlt)
      have sq : sl5 a (sz c) cp i = .slice (a i) (sz c i) (cp i) := rfl
      rw [sq] at ix
      clear sq
      generalize sz c i = z at *
      go_wp2
      go_roundw
      case rel => exact ⟨i + 1, by omega, by go_num, by first | rfl | trivial⟩
      case measure => simp [intOf]; omega
    · obtain rfl : i = 5 := by omega
      have d0 := (unhide B5).cell 0
      have d1 := (unhide B5).cell 1
      have d2 := (unhide B5).cell 2
      have d3 := (unhide B5).cell 3
      have d4 := (unhide B5).cell 4
      have eq := unhide EQ
      go_wp2
      go_ret
      exact ⟨rfl, unhide B2⟩
end Go.Proofs.YtgjpcjnhggcfdaaGreatDoor.HFit

namespace Go.Proofs.YtgjpcjnhggcfdaaGreatDoor.HFiv
set_option linter.unusedVariables false
open Go.ChangeShapes Go.WideShapes Go.ChangeAt Go.RowKit Go.Proofs.YtgjpcjnhggcfdaaGreatDoor.Core Go.Proofs.YtgjpcjnhggcfdaaGreatDoor.Ord Go.Proofs.YtgjpcjnhggcfdaaGreatDoor.Sml Go.Proofs.YtgjpcjnhggcfdaaGreatDoor.HNum Go.Proofs.YtgjpcjnhggcfdaaGreatDoor.HSiz Go.Proofs.YtgjpcjnhggcfdaaGreatDoor.HFit

theorem size_a (w : World) (o : Obj) : (w.alloc o).heap.size = w.heap.size + 1 := by simp
theorem made_set (w : World) (p : Addr) (v : Value) (T : TypeId) (vs : Array Value) : Box ((w.setCell p v).alloc (.cells vs T)) w.heap.size T vs := by
  have h := Box.made (w.setCell p v) T vs
  rwa [show (w.setCell p v).heap.size = w.heap.size by simp] at h
/-- Slices of whole rows. -/
def gs (G : Nat → Nat) (c k : Nat) : Value := .slice (some ⟨G k, 0, none⟩) (sz c k) (sz c k)
/-- The first i of them. -/
def fu (G : Nat → Nat) (c i k : Nat) : Value := if k < i then gs G c k else .slice none 0 0
def a16 (at_ : Nat → Nat) : Array Value := #[.int .u16 (at_ 0), .int .u16 (at_ 1), .int .u16 (at_ 2), .int .u16 (at_ 3), .int .u16 (at_ 4)]
theorem a16_at (s : Nat → Nat) (i : Nat) (h : i < 5) : (a16 s)[i]? = some (.int .u16 (s i)) := by
  rcases lt5 h with rfl | rfl | rfl | rfl | rfl <;> rfl
theorem fv_set (u : Nat → Value) (i : Nat) (h : i < 5) (v : Value) : (fv u).setIfInBounds i v = fv (fun k => if k = i then v else u k) := by
  rcases lt5 h with rfl | rfl | rfl | rfl | rfl <;> rfl
theorem fv_congr {u v : Nat → Value} (h : ∀ i, i < 5 → u i = v i) : fv u = fv v := by
  unfold fv; rw [h 0 (by omega), h 1 (by omega), h 2 (by omega), h 3 (by omega), h 4 (by omega)]
/-- Rows of lengths, each in a block of its own. -/
structure Rws (lo : Nat) (w : World) (G : Nat → Nat) (c i : Nat) (f : Nat → Nat → Nat) : Prop where
  low : ∀ k, k < i → lo ≤ G k
  rise : ∀ k j, k < j → j < i → G k < G j
  row : ∀ k, k < i → Box w (G k) 3 (nr (f k) (sz c k)).toArray
/-- What five has done after i of five. -/
structure FivI (w0 wr : World) (F Z A : Nat) (at_ : Nat → Nat) (G : Nat → Nat) (c i : Nat) (f : Nat → Nat → Nat) : Prop where
  rws : Rws (Z + 1) wr G c i f
  box : Box wr F 30 (fv (fu G c i))
  siz : Box wr Z 55 (fvn (sz c))
  ats : Box wr A 24 (a16 at_)
  res : Box wr (A + 1) 30 (fv (fun _ => .slice none 0 0))
  bel : Below w0.heap.size w0 wr
theorem Rws.keep {S : Nat → Prop} {lo : Nat} {w w' : World} {G : Nat → Nat} {c i : Nat} {f : Nat → Nat → Nat} (h : Rws lo w G c i f) (u : Upd S w w') (hs : ∀ k, lo ≤ k → k < w.heap.size → ¬ S k) : Rws lo w' G c i f :=
  ⟨h.low, h.rise, fun k hk => (h.row k hk).keep u (hs _ (h.low k hk) (h.row k hk).lt)⟩
theorem Rws.next {lo : Nat} {w w' : World} {G : Nat → Nat} {c i g : Nat} {f : Nat → Nat → Nat} (h : Rws lo w G c i f) (u : Below w.heap.size w w') (hg : w.heap.size ≤ g) (hl : lo ≤ g) (b : Box w' g 3 (nr (f i) (sz c i)).toArray) : Rws lo w' (fun k => if k = i then g else G k) c (i + 1) f := by
  refine ⟨fun k hk => ?_, fun k j hkj hj => ?_, fun k hk => ?_⟩
  · by_cases e : k = i
    · simp only [if_pos e]; exact hl
    · simp only [if_neg e]; exact h.low k (by omega)
  · by_cases e : j = i
    · have e2 : k ≠ i := by omega
      simp only [if_pos e, if_neg e2]
      have := (h.row k (by omega)).lt
      omega
    · have e2 : k ≠ i := by omega
      simp only [if_neg e, if_neg e2]; exact h.rise k j hkj (by omega)
  · by_cases e : k = i
    · subst e
      simp only [if_true]; exact b
    · simp only [if_neg e]; exact (h.row k (by omega)).below u (h.row k (by omega)).lt
theorem fu_next (G : Nat → Nat) (c i g : Nat) (h : i < 5) : (fv (fu G c i)).setIfInBounds i (.slice (some ⟨g, 0, none⟩) (sz c i) (sz c i)) = fv (fu (fun k => if k = i then g else G k) c (i + 1)) := by
  rw [fv_set _ _ h]
  refine fv_congr fun k _ => ?_
  unfold fu gs
  by_cases e : k = i
  · subst e
    simp
  · by_cases e2 : k < i
    · have e3 : k < i + 1 := by omega
      simp only [if_neg e, if_pos e2, if_pos e3]
    · have e3 : ¬ k < i + 1 := by omega
      simp only [if_neg e, if_neg e2, if_neg e3]
theorem FivI.next {w0 wr w' : World} {F Z A : Nat} {at_ : Nat → Nat} {G : Nat → Nat} {c i g : Nat} {f : Nat → Nat → Nat} (h : FivI w0 wr F Z A at_ G c i f) (hi : i < 5) (hF : w0.heap.size ≤ F) (hFZ : F < Z) (hA : A + 1 < F) (u : Upd (fun k => k = F) wr w') (hg : wr.heap.size ≤ g)
    (b : Box w' g 3 (nr (f i) (sz c i)).toArray) (bF : Box w' F 30 ((fv (fu G c i)).setIfInBounds i (.slice (some ⟨g, 0, none⟩) (sz c i) (sz c i)))) : FivI w0 w' F Z A at_ (fun k => if k = i then g else G k) c (i + 1) f := by
  have hz := h.siz.lt
  refine ⟨⟨fun k hk => ?_, fun k j hkj hj => ?_, fun k hk => ?_⟩, by rw [← fu_next _ _ _ _ hi]; exact bF, h.siz.keep u (by omega), h.ats.keep u (by omega), h.res.keep u (by omega), h.bel.trans (u.below _ h.bel.size (fun k hk => by omega))⟩
  · by_cases e : k = i
    · simp only [if_pos e]; omega
    · simp only [if_neg e]; exact h.rws.low k (by omega)
  · by_cases e : j = i
    · have e2 : k ≠ i := by omega
      simp only [if_pos e, if_neg e2]
      have := (h.rws.row k (by omega)).lt
      omega
    · have e2 : k ≠ i := by omega
      simp only [if_neg e, if_neg e2]; exact h.rws.rise k j hkj (by omega)
  · by_cases e : k = i
    · subst e
      simp only [if_true]; exact b
    · simp only [if_neg e]
      have := h.rws.low k (by omega)
      exact (h.rws.row k (by omega)).keep u (by omega)
/-- What five answers. -/
structure FivR (w : World) (c : Nat) (f : Nat → Nat → Nat) (e : Ending) (w' : World) : Prop where
  ex : ∃ G, e = .returned (.agg (fv (gs G c))) ∧ Rws w.heap.size w' G c 5 f
  bel : Below w.heap.size w w'
set_option maxHeartbeats 2000000 in
theorem five5 (at_ : Nat → Nat) (ha : ∀ i, at_ i ≤ 65535) (c : Nat) (h : c ≤ 11) (w : World) :
    Calls Tryz.prog 6 #[.int .i64 c, .agg (a16 at_), .bool false] w fun e w' => FivR w c (fun i => f1 (at_ i % sz c i) 1) e w' := by
  have S := hide (fun w => sizes15 c h w)
  have SZ := hide (fun i => sz_bd c i h)
  clear h
  unfold fvn at S
  go_enter Tryz.func6, Tryz.ntmps6
  go_wp2_with fail
  refine (unhide S _).mono ?_
  rintro e w1 ⟨rfl, b1⟩
  have bA := ((((Box.made w 24 (a16 at_)).alloc (.cells (fv (fun _ => .slice none 0 0)) 30)).alloc (.cells (fv (fun _ => .slice none 0 0)) 30)))
  have bR := ((Box.made (w.alloc (.cells (a16 at_) 24)) 30 (fv (fun _ => .slice none 0 0))).alloc (.cells (fv (fun _ => .slice none 0 0)) 30))
  have bF := (Box.made ((w.alloc (.cells (a16 at_) 24)).alloc (.cells (fv (fun _ => .slice none 0 0)) 30)) 30 (fv (fun _ => .slice none 0 0)))
  rw [size_a] at bR
  rw [size_a, size_a] at bF
  have hb := ((bel_a1 w (.cells (a16 at_) 24)).alloc (by simp) (.cells (fv (fun _ => .slice none 0 0)) 30)).alloc (by simp; omega) (.cells (fv (fun _ => .slice none 0 0)) 30)
  have BB := hb.trans (b1.mono hb.size)
  have I0 : FivI w (w1.alloc (.cells #[.int .i64 (sz c 0 : Nat), .int .i64 (sz c 1 : Nat), .int .i64 (sz c 2 : Nat), .int .i64 (sz c 3 : Nat), .int .i64 (sz c 4 : Nat)] 55)) (w.heap.size + 1 + 1) w1.heap.size w.heap.size at_ (fun _ => 0) c 0 (fun i => f1 (at_ i % sz c i) 1) :=
    ⟨⟨fun k hk => by omega, fun k j _ hj => by omega, fun k hk => by omega⟩, (bF.below b1 bF.lt).alloc _, Box.made _ _ _, (bA.below b1 bA.lt).alloc _, (bR.below b1 bR.lt).alloc _, BB.alloc BB.size _⟩
  have II := hide I0
  have hFZ := hide (show w.heap.size + 1 + 1 < w1.heap.size from (bF.below b1 bF.lt).lt)
  clear bA bR bF hb BB I0 b1 S
  go_wp2
  have hS : (w1.alloc (.cells #[.int .i64 (sz c 0 : Nat), .int .i64 (sz c 1 : Nat), .int .i64 (sz c 2 : Nat), .int .i64 (sz c 3 : Nat), .int .i64 (sz c 4 : Nat)] 55)).heap.size = w1.heap.size + 1 := by simp
  have HS := hide hS
  clear hS
  generalize w1.alloc (.cells #[.int .i64 (sz c 0 : Nat), .int .i64 (sz c 1 : Nat), .int .i64 (sz c 2 : Nat), .int .i64 (sz c 3 : Nat), .int .i64 (sz c 4 : Nat)] 55) = w2 at *
  generalize w1.heap.size = Z at *
  go_loopw [9] (fun x wr => ∃ (i : Nat) (G : Nat → Nat), i ≤ 5 ∧ x = .int .i64 i ∧ FivI w wr (w.heap.size + 1 + 1) Z w.heap.size at_ G c i (fun i => f1 (at_ i % sz c i) 1)) (fun x _ => 5 - (intOf x).toNat)
  case atStart => exact ⟨0, _, by omega, rfl, unhide II⟩
  case round =>
    obtain ⟨i, G, hi, rfl, I1⟩ := hrel
    have IR := hide I1
    have hFl := I1.box.lt
    have hZl := I1.siz.lt
    have hAl := I1.ats.lt
    clear II HS
    by_cases hlt : i < 5
    · have hlt' : (i : Int) < 5 := by omega
      have cz := (I1.siz.cell i).trans (fvn_at (sz c) i hlt)
      have ca := (I1.ats.cell i).trans (a16_at at_ i hlt)
      have fF := I1.box.free i
      have cF := (I1.box.cell i).trans (fv_at (fu G c i) i hlt)
      have hA5 := ha i
      clear I1
      obtain ⟨z0, z1⟩ := unhide SZ i
      have FN := hide (fun (w' : World) => FivI.next (w' := w') (g := wr.heap.size) (unhide IR) hlt (by omega) (unhide hFZ) (by omega))
      generalize hz : sz c i = z at *
      have mk := fun w => make_ints w z (by omega)
      have hm : ((at_ i : Int)).tmod (z : Int) = ((at_ i % z : Nat) : Int) := rfl
      have hml : at_ i % z < z := Nat.mod_lt _ (by omega)
      have hz0 : ¬ (z : Int) = 0 := by omega
      generalize hmm : at_ i % z = m at *
      have HMM := hide hmm
      clear hmm
      have hFne : w.heap.size + 1 + 1 ≠ wr.heap.size := by omega
      have U3 : Upd (fun k => k = w.heap.size + 1 + 1) wr ((wr.setCell ⟨w.heap.size + 1 + 1, i, none⟩ (.slice (some ⟨wr.heap.size, 0, none⟩) z z)).alloc (.cells (nr (fun _ => 0) z).toArray 3)) :=
        ((Upd.refl (fun k => k = w.heap.size + 1 + 1) wr).setCell (p := ⟨w.heap.size + 1 + 1, i, none⟩) rfl _).alloc _
      have BG : Box ((wr.setCell ⟨w.heap.size + 1 + 1, i, none⟩ (.slice (some ⟨wr.heap.size, 0, none⟩) z z)).alloc (.cells (nr (fun _ => 0) z).toArray 3)) wr.heap.size 3 (nr (fun _ => 0) z).toArray :=
        made_set _ _ _ _ _
      have BF := ((unhide IR).box.set i (.slice (some ⟨wr.heap.size, 0, none⟩) z z)).alloc (.cells (nr (fun _ => 0) z).toArray 3)
      go_wp2
      clear ca cz
      generalize hw3 : (wr.setCell ⟨w.heap.size + 1 + 1, i, none⟩ (.slice (some ⟨wr.heap.size, 0, none⟩) z z)).alloc (.cells (nr (fun _ => 0) z).toArray 3) = w3 at *
      have cz := (((unhide IR).siz.keep U3 (by have := unhide hFZ; omega)).cell i).trans (fvn_at (sz c) i hlt)
      have ca := (((unhide IR).ats.keep U3 (by omega)).cell i).trans (a16_at at_ i hlt)
      rw [hz] at cz
      clear hw3
      have U4 := hide U3
      have BG4 := hide BG
      have BF4 := hide BF
      have sF : (w.heap.size + 1 + 1) < w3.heap.size := by have := U3.size; omega
      have cF3 : w3.cell? ⟨w.heap.size + 1 + 1, i, none⟩ = some (.slice (some ⟨wr.heap.size, 0, none⟩) z z) := (BF.cell i).trans (by rw [fv_set _ _ hlt, fv_at _ _ hlt, if_pos rfl])
      have fG := BG.free m
      have cG := (BG.cell m).trans (na_at _ _ _ hml)
      clear U3 BG BF cF fF mk
      go_quiet (fail)
      have U5 := hide ((unhide U4).drewN nq)
      have cF5 : (w3.drewN nq).cell? ⟨w.heap.size + 1 + 1, i, none⟩ = some (.slice (some ⟨wr.heap.size, 0, none⟩) z z) := cF3
      have fG5 : (w3.drewN nq).frozen? ⟨wr.heap.size, m, none⟩ = false := fG
      have cG5 : (w3.drewN nq).cell? ⟨wr.heap.size, m, none⟩ = some (.int .i64 ((0 : Nat) : Int)) := cG
      have BG5 := hide ((unhide BG4).drewN nq)
      have BF5 := hide ((unhide BF4).drewN nq)
      clear ca cz cF3 fG cG U4 BG4 BF4 sF
      generalize w3.drewN nq = w5 at *
      have hmli : (m : Int) < (z : Int) := by omega
      have hn := hide (hFne)
      go_wp2
      go_roundw
      case rel =>
        have hn' := unhide hn
        have bG := (unhide BG5).set m (.int .i64 1)
        have bF := (unhide BF5).other (p := ⟨wr.heap.size, m, none⟩) hn' (.int .i64 1)
        have u := upd_new (unhide U5) (p := ⟨wr.heap.size, m, none⟩) (Nat.le_refl _) (.int .i64 1)
        refine ⟨i + 1, fun k => if k = i then wr.heap.size else G k, by omega, by go_num, unhide FN _ u (Nat.le_refl _) ?_ bF⟩
        have e : (nr (fun _ => 0) z).toArray.setIfInBounds m (.int .i64 1) = (nr (f1 m 1) z).toArray := na_set (fun _ => 0) z m 1
        rw [← e]
        exact bG
      case measure => simp [intOf]; omega
    · obtain rfl : i = 5 := by omega
      have q := fun k (hk : k < 5) => (I1.box.cell k).trans (fv_at (fu G c 5) k hk)
      have q0 : wr.cell? ⟨w.heap.size + 1 + 1, 0, none⟩ = some (.slice (some ⟨G 0, 0, none⟩) (sz c 0) (sz c 0)) := q 0 (by omega)
      have q1 : wr.cell? ⟨w.heap.size + 1 + 1, 1, none⟩ = some (.slice (some ⟨G 1, 0, none⟩) (sz c 1) (sz c 1)) := q 1 (by omega)
      have q2 : wr.cell? ⟨w.heap.size + 1 + 1, 2, none⟩ = some (.slice (some ⟨G 2, 0, none⟩) (sz c 2) (sz c 2)) := q 2 (by omega)
      have q3 : wr.cell? ⟨w.heap.size + 1 + 1, 3, none⟩ = some (.slice (some ⟨G 3, 0, none⟩) (sz c 3) (sz c 3)) := q 3 (by omega)
      have q4 : wr.cell? ⟨w.heap.size + 1 + 1, 4, none⟩ = some (.slice (some ⟨G 4, 0, none⟩) (sz c 4) (sz c 4)) := q 4 (by omega)
      have r0 := I1.res.free 0
      have r1 := I1.res.free 1
      have r2 := I1.res.free 2
      have r3 := I1.res.free 3
      have r4 := I1.res.free 4
      have rr := I1.res.lt
      have t := fun k (hk : k < 5) => (I1.res.cell k).trans (fv_at (fun _ => .slice none 0 0) k hk)
      have t0 := t 0 (by omega)
      have t1 := t 1 (by omega)
      have t2 := t 2 (by omega)
      have t3 := t 3 (by omega)
      have t4 := t 4 (by omega)
      clear t q I1
      go_wp2
      have bx := (unhide IR).res
      have be := (unhide IR).bel
      have u : Upd (fun k => k = w.heap.size + 1) wr (((((wr.setCell ⟨w.heap.size + 1, 0, none⟩ (.slice (some ⟨G 0, 0, none⟩) (sz c 0) (sz c 0))).setCell ⟨w.heap.size + 1, 1, none⟩ (.slice (some ⟨G 1, 0, none⟩) (sz c 1) (sz c 1))).setCell ⟨w.heap.size + 1, 2, none⟩ (.slice (some ⟨G 2, 0, none⟩) (sz c 2) (sz c 2))).setCell ⟨w.heap.size + 1, 3, none⟩ (.slice (some ⟨G 3, 0, none⟩) (sz c 3) (sz c 3))).setCell ⟨w.heap.size + 1, 4, none⟩ (.slice (some ⟨G 4, 0, none⟩) (sz c 4) (sz c 4))) :=
        (((((Upd.refl (fun k => k = w.heap.size + 1) wr).setCell (p := ⟨w.heap.size + 1, 0, none⟩) rfl _).setCell (p := ⟨w.heap.size + 1, 1, none⟩) rfl _).setCell (p := ⟨w.heap.size + 1, 2, none⟩) rfl _).setCell (p := ⟨w.heap.size + 1, 3, none⟩) rfl _).setCell (p := ⟨w.heap.size + 1, 4, none⟩) rfl _
      have hb := (((((bx.set 0 (.slice (some ⟨G 0, 0, none⟩) (sz c 0) (sz c 0))).set 1 (.slice (some ⟨G 1, 0, none⟩) (sz c 1) (sz c 1))).set 2 (.slice (some ⟨G 2, 0, none⟩) (sz c 2) (sz c 2))).set 3 (.slice (some ⟨G 3, 0, none⟩) (sz c 3) (sz c 3))).set 4 (.slice (some ⟨G 4, 0, none⟩) (sz c 4) (sz c 4)))
      have hz := unhide hFZ
      refine bodyPost_ret (results_cell_row rfl _ _ (w.heap.size + 1) 30 (fv (gs G c)) (0, 0) _ rfl hb Tryz.underlying30 rfl (by kernel_rfl)) rfl ⟨⟨G, rfl, ?_⟩, ?_⟩
      · have r := (unhide IR).rws
        exact ⟨fun k hk => by have := r.low k hk; omega, r.rise, fun k hk => (r.row k hk).keep u (by have := r.low k hk; omega)⟩
      · exact be.trans (u.below _ be.size (fun k hk => by omega))
end Go.Proofs.YtgjpcjnhggcfdaaGreatDoor.HFiv
